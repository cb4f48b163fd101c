/- The contract of slices.Clone on slices of api.Counter: a slice of its own with the same elements. Condition: it takes at most 2^47 bytes. -/
import Derived.Test.YtffgoekdjcempaaGreatInfoCounters
import Derived.WalkSpells
namespace Go.Proofs.YtffgoekdjcempaaGreat
open Go.ChangeShapes Go.WideShapes Go.ChangeAt Go.RowKit

set_option maxRecDepth 100000 in
set_option maxHeartbeats 1000000 in
theorem clone_counters (a : Option Addr) (len cap : Nat) (l : List (Int × Int)) (w : World) (h : Tab w a len cap 2 (l.map iiC)) (hbig : len * 16 ≤ 140737488355328) :
    Calls Tryz.prog 12 #[.slice a len cap] w (RetRows w 37 2 (l.map iiC)) := by
  have e0 := h.hlen
  cases a with
  | none =>
    have hn : ∀ w : World, (binOp .eql 22 (.slice none len cap) (.slice none 0 0)).run Tryz.prog w = .ok (.bool true) w := fun w => Lib.run_eql_slice_nil (P := Tryz.prog) w 22 37 none len cap 0 0 Tryz.underlying22
    obtain ⟨hz, hR⟩ := h.nil_of
    rw [hR]
    clear hR e0 hz
    go_enter Tryz.func12, Tryz.ntmps12
    go_wp2
    go_ret
    exact ⟨_, rfl, Own.nil _ _ _ _, Below.refl _ _⟩
  | some ad =>
    have hn : ∀ w : World, (binOp .eql 22 (.slice (some ad) len cap) (.slice none 0 0)).run Tryz.prog w = .ok (.bool false) w := fun w => Lib.run_eql_slice_nil (P := Tryz.prog) w 22 37 (some ad) len cap 0 0 Tryz.underlying22
    have HE := Lib.hid e0
    clear e0
    go_enter Tryz.func12, Tryz.ntmps12
    go_wp2_with ((at_builtin; refine wpList_append_rows _ rfl _ _ 22 rfl w.heap.size 37 _ 2 16 Tryz.underlying22 info_counter rfl (by decide) _ [] rfl (Own.empty w 37 2) ad len cap (l.map iiC) HE.out rfl (rows_of iiC_len l) (h.flat ((Below.refl _ _).alloc (Nat.le_refl _) _) (by decide) (rows_of iiC_len l)) (one_of iiC_one l) (by simp; omega) (by decide) (by simp) ?_; intro v' w1 hO1 hg1))
    go_ret
    exact ⟨_, rfl, hO1, (Own.empty w 37 2).under ((Below.refl _ _).alloc (Nat.le_refl _) _) (Nat.le_refl _) (by simp) hg1⟩

end Go.Proofs.YtffgoekdjcempaaGreat
