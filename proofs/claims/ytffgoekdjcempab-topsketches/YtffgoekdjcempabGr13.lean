/- Texts joined: TabCheck, CloneInts. -/
import Derived.Test.YtffgoekdjcempabGr11
import Derived.Test.YtffgoekdjcempabTabFind
import Derived.Test.YtffgoekdjcempabGr10
import Derived.Deep.DeepCutAuto
import Derived.Test.YtffgoekdjcempabGr6
import Derived.WalkSpells
/- The contracts of the program's table.isOutside, table.Check and table.column. -/
namespace Go.Proofs.Ytffgoekdjcempab
open Go.ChangeShapes Go.WideShapes Go.ChangeAt Go.RowKit
open Tbl

namespace Tbl
theorem two_cells {w : World} {b : Nat} {x : Int} {v : Value} {t : TypeId} (h : w.heap[b]? = some (.cells #[.int .i64 x, v] t (0, 0))) :
    (w.cell? ⟨b, 0, none⟩ = some (.int .i64 x) ∧ w.cell? ⟨b, 1, none⟩ = some v) ∧ w.frozen? ⟨b, 0, none⟩ = false ∧ w.frozen? ⟨b, 1, none⟩ = false :=
  ⟨⟨cell_blk h rfl, cell_blk h rfl⟩, frozen_blk h, frozen_blk h⟩
theorem two_set {w : World} {b : Nat} {x x' : Int} {v v' : Value} {t : TypeId} (h : w.heap[b]? = some (.cells #[.int .i64 x, v] t (0, 0))) :
    ((w.setCell ⟨b, 0, none⟩ (.int .i64 x')).setCell ⟨b, 1, none⟩ v').heap[b]? = some (.cells #[.int .i64 x', v'] t (0, 0)) := by
  have h0 := heap_setCell_same w b 0 _ _ (.int .i64 x') h
  have h1 := heap_setCell_same _ b 1 _ _ v' h0
  rw [h1]
  rfl
theorem kept {w1 w2 : World} {b : Nat} {o : Obj} (hb : Below w1.heap.size w1 w2) (h : w1.heap[b]? = some o) : w2.heap[b]? = some o :=
  (hb.block b (Array.getElem?_eq_some_iff.1 h).1).trans h
theorem blk_else {w : World} {X : Nat} {a : Addr} {v : Value} {o : Obj} (h : w.heap[X]? = some o) (hne : X ≠ a.block) : (w.setCell a v).heap[X]? = some o := (Below.heap_setCell _ _ _ _ hne).trans h
end Tbl

set_option maxRecDepth 100000 in
theorem isOutside_any (n : Int) (w : World) : Calls Try.prog 53 #[.int .i64 n] w fun e w' => e = .returned (.bool (outB n)) ∧ w' = w := by
  unfold outB
  by_cases h1 : n < 0
  · have t : decide (n < 0) = true := decide_eq_true h1
    rw [t, Bool.true_or]
    go_enter Try.func53, Try.ntmps53
    go_wp2
    go_ret
    exact ⟨rfl, rfl⟩
  · have t : decide (n < 0) = false := decide_eq_false h1
    rw [t, Bool.false_or]
    have h1' : 0 ≤ n := by omega
    clear h1
    go_enter Try.func53, Try.ntmps53
    go_wp2
    go_ret
    exact ⟨rfl, rfl⟩

set_option maxRecDepth 100000 in
set_option maxHeartbeats 2000000 in
theorem tcheck_any (W : Int) (a : Option Addr) (len cap : Nat) (R : List (List Int)) (P : Nat → Prop) (w : World) (hT : TTx w P a len cap R) :
    Calls Try.prog 52 #[.agg #[.int .i64 W, .slice a len cap]] w fun e w' => e = .returned (.int .i64 (tabE W R)) ∧ Below w.heap.size w w' := by
  have hl := hT.len
  have hm := hT.max
  have HB := Lib.hid (show Below w.heap.size w (w.alloc (.cells #[.int .i64 W, .slice a len cap] 27)) from (Below.refl _ _).alloc (Nat.le_refl _) _)
  by_cases h1 : W < 1
  · rw [tabE_arg (Or.inl h1)]
    go_enter Try.func52, Try.ntmps52
    go_wp2
    go_ret
    exact ⟨rfl, HB.out⟩
  have h1' : 1 ≤ W := by omega
  by_cases h2 : 32 < W
  · rw [tabE_arg (Or.inr (Or.inl h2))]
    clear h1
    go_enter Try.func52, Try.ntmps52
    go_wp2
    go_ret
    exact ⟨rfl, HB.out⟩
  have h2' : W ≤ 32 := by omega
  by_cases h3 : len < 1
  · rw [tabE_arg (Or.inr (Or.inr (Or.inl (by omega))))]
    have h3' : (len : Int) < 1 := by omega
    clear h1 h2 h3
    go_enter Try.func52, Try.ntmps52
    go_wp2
    go_ret
    exact ⟨rfl, HB.out⟩
  have h3' : 1 ≤ len := by omega
  by_cases h4 : 4 < len
  · rw [tabE_arg (Or.inr (Or.inr (Or.inr (by omega))))]
    have h4' : (4 : Int) < (len : Int) := by omega
    clear h1 h2 h3
    go_enter Try.func52, Try.ntmps52
    go_wp2
    go_ret
    exact ⟨rfl, HB.out⟩
  have h4' : len ≤ 4 := by omega
  rw [tabE_rows h1' h2' (by omega) (by omega)]
  obtain ⟨r, hr⟩ : ∃ r, rowsE W R = r := ⟨_, rfl⟩
  rw [hr]
  have HR := Lib.hid hr
  have HT := Lib.hid hT
  have HL := Lib.hid hl
  have HX := Lib.hid (MapKept.heap_alloc w (.cells #[.int .i64 W, .slice a len cap] 27)).1
  obtain ⟨v0, hv0⟩ : ∃ v, w.alloc (.cells #[.int .i64 W, .slice a len cap] 27) = v := ⟨_, rfl⟩
  rw [hv0] at HB HX
  have HV := Lib.hid hv0
  clear hr hT hl hv0 h1 h2 h3 h4
  go_enter Try.func52, Try.ntmps52
  go_upto_region 1 with fail
  rw [HV.out]
  obtain ⟨X, hX⟩ : ∃ X, w.heap.size = X := ⟨_, rfl⟩
  rw [hX] at HX ⊢
  have HXX := Lib.hid hX
  clear HV hX
  obtain ⟨⟨c0, c1⟩, _⟩ := two_cells HX.out
  go_wp2_with fail
  clear c0 c1
  go_loopg [28] len (fun g i wr => ∃ k : Nat, k + g = len ∧ i = .int .i64 k ∧ Hid (∀ j, j < k → ∀ q, R[j]? = some q → rowE W q = 0) ∧ Hid (Below v0.heap.size v0 wr))
  case atStart => exact ⟨0, by omega, rfl, Lib.hid (fun j hj => by omega), Lib.hid (Below.refl _ _)⟩
  case round =>
    obtain ⟨k, hk0, rfl, HN, HW⟩ := hrel
    have HJ := Lib.hid hk0
    have hk : k ≤ len := by omega
    clear hk0
    have HBW := Lib.hid (below_on HB.out HW.out)
    by_cases hlt : k < len
    · obtain ⟨q, hq⟩ : ∃ x, R[k]? = some x := ⟨_, List.getElem?_eq_getElem (by rw [HL.out]; exact hlt)⟩
      obtain ⟨b1, o1, qa, qn, qc, ha, hbs, c0, hTq, hqn, hqc, hqm⟩ := HT.out.row HBW.out hq
      obtain ⟨⟨d0, d1⟩, _⟩ := two_cells (kept HW.out HX.out)
      have HQ := Lib.hid hq
      have HTQ := Lib.hid hTq
      have HQN := Lib.hid hqn
      subst ha
      clear hq hTq hqn
      by_cases hw : (qn : Int) ≠ W
      · have tw : ((qn : Int) != W) = true := by simpa using hw
        obtain rfl : r = 7 := by
          rw [← HR.out]
          have e7 : rowE W q = 7 := rowE_len (by rw [HQN.out]; exact hw)
          rw [rowsE_here HQ.out (by rw [e7]; decide) HN.out, e7]
        clear hw
        go_wp2
        go_ret
        exact ⟨rfl, HBW.out⟩
      · obtain rfl : W = (qn : Int) := by omega
        have tw : ((qn : Int) != (qn : Int)) = false := by simp
        clear hw
        have HC := Lib.hid (containsFunc0_any 53 outB qa qn qc q wr HTQ.out (fun _ _ => rfl) (fun x _ W _ => (isOutside_any x W).mono (by rintro e w' ⟨rfl, rfl⟩; exact ⟨rfl, Below.refl _ _⟩)))
        cases hany : q.any outB
        · rw [hany] at HC
          have HN' : Hid (∀ j, j < k + 1 → ∀ y, R[j]? = some y → rowE (qn : Int) y = 0) := Lib.hid (fun j hj y hy => by
            by_cases hjk : j = k
            · subst hjk
              rw [HQ.out, Option.some.injEq] at hy
              rw [← hy]; exact rowE_ok (by rw [HQN.out]) hany
            · exact HN.out j (by omega) y hy)
          clear hany
          go_wp2_with fail
          refine HC.out.mono ?_
          rintro e w1 ⟨rfl, hb⟩
          have HW1 := Lib.hid (below_on HW.out hb)
          clear hb
          go_wp2_with fail
          go_roundg (len - (k + 1))
          case measure => have := HJ.out; omega
          case rel => exact ⟨k + 1, by omega, by go_num, HN', HW1⟩
        · rw [hany] at HC
          obtain rfl : r = 1 := by
            rw [← HR.out]
            have e7 : rowE (qn : Int) q = 1 := rowE_out (by rw [HQN.out]) hany
            rw [rowsE_here HQ.out (by rw [e7]; decide) HN.out, e7]
          clear hany
          go_wp2_with fail
          refine HC.out.mono ?_
          rintro e w1 ⟨rfl, hb⟩
          have HW1 := Lib.hid (below_on HBW.out hb)
          clear hb
          go_wp2
          go_ret
          exact ⟨rfl, HW1.out⟩
    · obtain rfl : k = len := by omega
      obtain rfl : r = 0 := by
        rw [← HR.out]
        exact rowsE_none (fun j q hq => HN.out j (by have := (List.getElem?_eq_some_iff.1 hq).1; rw [HL.out] at this; exact this) q hq)
      go_wp2
      go_ret
      exact ⟨rfl, HBW.out⟩

set_option maxRecDepth 100000 in
set_option maxHeartbeats 1000000 in
theorem column_any (s : Nat) (v : Value) (x : Int) (i : Nat) (h1 : 1 ≤ s) (h2 : s ≤ 32) (hi : i ≤ 4) (a : Option Addr) (len cap : Nat) (hv : v = .slice a len cap) (w : World) :
    Calls Try.prog 55 #[.agg #[.int .i64 s, v], .int .i64 x, .int .i64 i] w fun e w' => e = .returned (.int .i64 (colN s x i)) ∧ Below w.heap.size w w' := by
  subst hv
  have HB := Lib.hid (show Below w.heap.size w (w.alloc (.cells #[.int .i64 s, .slice a len cap] 27)) from (Below.refl _ _).alloc (Nat.le_refl _) _)
  have HX := Lib.hid (MapKept.heap_alloc w (.cells #[.int .i64 s, .slice a len cap] 27)).1
  obtain ⟨v0, hv0⟩ : ∃ v, w.alloc (.cells #[.int .i64 s, .slice a len cap] 27) = v := ⟨_, rfl⟩
  rw [hv0] at HB HX
  have HV := Lib.hid hv0
  have hA := arg_col (x := x) (i := (i : Int) + 1) (j := i) rfl
  rw [show IntKind.u64.wrap ((i : Int) + 1) = (i : Int) + 1 from by rw [IntKind.wrap_u64]; omega] at hA
  have HA := Lib.hid hA
  have HM := Lib.hid (fun W => mix_any (argN x i) (argN_lt x i) W)
  have hZ := col_walk (x := x) (j := i) h1 h2
  have HZ := Lib.hid hZ
  have HZ2 : Hid (wrap64 (((MixMath.mixN (argN x i) : Nat) : Int) % (s : Int)) = ((colN s x i : Nat) : Int)) := Lib.hid (by
    have h := colN_lt (x := x) (i := i) h1
    rw [← Int.natCast_emod, ← colN_def]
    unfold wrap64
    omega)
  have hws : ¬ (IntKind.u64.wrap (s : Int) = 0) := by rw [IntKind.wrap_u64]; omega
  clear hv0 hA hZ
  go_enter Try.func55, Try.ntmps55
  go_upto_region 1 with fail
  rw [HV.out]
  obtain ⟨X, hX⟩ : ∃ X, w.heap.size = X := ⟨_, rfl⟩
  rw [hX] at HX ⊢
  have HXX := Lib.hid hX
  obtain ⟨⟨c0, c1⟩, _⟩ := two_cells HX.out
  clear HV hX
  go_wp2_with fail
  rw [HA.out]
  refine (HM.out _).mono ?_
  rintro e w5 ⟨rfl, hw5⟩
  rw [← hw5]
  clear hw5
  go_wp2
  go_ret
  first
  | exact ⟨ret_int HZ.out, HB.out⟩
  | exact ⟨ret_int HZ2.out, HB.out⟩
end Go.Proofs.Ytffgoekdjcempab

/- The contract of slices.Clone on slices of int: a slice of its own with the same elements. Condition: it takes at most 2^47 bytes. -/
namespace Go.Proofs.Ytffgoekdjcempab
open Go.ChangeShapes Go.WideShapes Go.ChangeAt Go.RowKit

set_option maxRecDepth 100000 in
set_option maxHeartbeats 1000000 in
theorem clone_ints (a : Option Addr) (len cap : Nat) (l : List Int) (w : World) (h : Tab w a len cap 1 (l.map iC)) (hbig : len * 8 ≤ 140737488355328) :
    Calls Try.prog 59 #[.slice a len cap] w (RetRows w 3 1 (l.map iC)) := by
  have e0 := h.hlen
  cases a with
  | none =>
    have hn : ∀ w : World, (binOp .eql 53 (.slice none len cap) (.slice none 0 0)).run Try.prog w = .ok (.bool true) w := fun w => Lib.run_eql_slice_nil (P := Try.prog) w 53 3 none len cap 0 0 Try.underlying53
    obtain ⟨hz, hR⟩ := h.nil_of
    rw [hR]
    clear hR e0 hz
    go_enter Try.func59, Try.ntmps59
    go_wp2
    go_ret
    exact ⟨_, rfl, Own.nil _ _ _ _, Below.refl _ _⟩
  | some ad =>
    have hn : ∀ w : World, (binOp .eql 53 (.slice (some ad) len cap) (.slice none 0 0)).run Try.prog w = .ok (.bool false) w := fun w => Lib.run_eql_slice_nil (P := Try.prog) w 53 3 (some ad) len cap 0 0 Try.underlying53
    have HE := Lib.hid e0
    clear e0
    go_enter Try.func59, Try.ntmps59
    go_wp2_with ((at_builtin; refine wpList_append_rows _ rfl _ _ 53 rfl w.heap.size 3 _ 1 8 Try.underlying53 info_int rfl (by decide) _ [] rfl (Own.empty w 3 1) ad len cap (l.map iC) HE.out rfl (rows_of iC_len l) (h.flat ((Below.refl _ _).alloc (Nat.le_refl _) _) (by decide) (rows_of iC_len l)) (one_of iC_one l) (by simp; omega) (by decide) (by simp) ?_; intro v' w1 hO1 hg1))
    go_ret
    exact ⟨_, rfl, hO1, (Own.empty w 3 1).under ((Below.refl _ _).alloc (Nat.le_refl _) _) (Nat.le_refl _) (by simp) hg1⟩

end Go.Proofs.Ytffgoekdjcempab
