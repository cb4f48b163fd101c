/- The contract of slices.Clone on slices of api.Pair: a slice of its own with the same elements. Condition: it takes at most 2^47 bytes. -/
import Derived.Test.YtfocmnjkoominaaDoorInfoPairs
import Derived.WalkSpells
namespace Go.Proofs.YtfocmnjkoominaaDoor
open Go.ChangeShapes Go.WideShapes Go.ChangeAt Go.RowKit

set_option maxRecDepth 100000 in
set_option maxHeartbeats 1000000 in
theorem clone_pairs (a : Option Addr) (len cap : Nat) (l : List (ByteArray × ByteArray)) (w : World) (h : Tab w a len cap 2 (l.map ssC)) (hbig : len * 32 ≤ 140737488355328) :
    Calls Tryd.prog 21 #[.slice a len cap] w (RetRows w 31 2 (l.map ssC)) := by
  have e0 := h.hlen
  cases a with
  | none =>
    have hn : ∀ w : World, (binOp .eql 22 (.slice none len cap) (.slice none 0 0)).run Tryd.prog w = .ok (.bool true) w := fun w => Lib.run_eql_slice_nil (P := Tryd.prog) w 22 31 none len cap 0 0 Tryd.underlying22
    obtain ⟨hz, hR⟩ := h.nil_of
    rw [hR]
    clear hR e0 hz
    go_enter Tryd.func21, Tryd.ntmps21
    go_wp2
    go_ret
    exact ⟨_, rfl, Own.nil _ _ _ _, Below.refl _ _⟩
  | some ad =>
    have hn : ∀ w : World, (binOp .eql 22 (.slice (some ad) len cap) (.slice none 0 0)).run Tryd.prog w = .ok (.bool false) w := fun w => Lib.run_eql_slice_nil (P := Tryd.prog) w 22 31 (some ad) len cap 0 0 Tryd.underlying22
    have HE := Lib.hid e0
    clear e0
    go_enter Tryd.func21, Tryd.ntmps21
    go_wp2_with ((at_builtin; refine wpList_append_rows _ rfl _ _ 22 rfl w.heap.size 31 _ 2 32 Tryd.underlying22 info_pair rfl (by decide) _ [] rfl (Own.empty w 31 2) ad len cap (l.map ssC) HE.out rfl (rows_of ssC_len l) (h.flat ((Below.refl _ _).alloc (Nat.le_refl _) _) (by decide) (rows_of ssC_len l)) (one_of ssC_one l) (by simp; omega) (by decide) (by simp) ?_; intro v' w1 hO1 hg1))
    go_ret
    exact ⟨_, rfl, hO1, (Own.empty w 31 2).under ((Below.refl _ _).alloc (Nat.le_refl _) _) (Nat.le_refl _) (by simp) hg1⟩

end Go.Proofs.YtfocmnjkoominaaDoor
