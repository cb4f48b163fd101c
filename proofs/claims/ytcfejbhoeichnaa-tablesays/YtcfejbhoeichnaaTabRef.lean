/- The contracts of the document's own test of sketches and of its columns (culref.Rows, Place). -/
import Derived.Test.YtcfejbhoeichnaaTabCheck
import Derived.Test.YtcfejbhoeichnaaRefCount
import Derived.Test.YtcfejbhoeichnaaRefMixOne
import Derived.Deep.RegionWith
namespace Go.Proofs.Ytcfejbhoeichnaa
open Go.ChangeShapes Go.WideShapes Go.ChangeAt Go.RowKit
open Tbl

namespace Tbl
theorem outB_not (n : Int) : (!(decide (0 ≤ n) && decide (n ≤ 1000000000000))) = outB n := by
  unfold outB
  by_cases h1 : 0 ≤ n
  · rw [decide_eq_true h1, decide_eq_false (by omega : ¬ n < 0), Bool.true_and, Bool.false_or]
    by_cases h2 : n ≤ 1000000000000
    · rw [decide_eq_true h2, decide_eq_false (by omega)]; rfl
    · rw [decide_eq_false h2, decide_eq_true (by omega)]; rfl
  · rw [decide_eq_false h1, decide_eq_true (by omega : n < 0)]; rfl
end Tbl

set_option maxHeartbeats 400000 in
theorem rowsClo_any (n : Int) (w : World) : Calls Try.prog 45 #[.int .i64 n] w fun e w' => e = .returned (.bool (outB n)) ∧ Below w.heap.size w w' := by
  have H := Lib.hid (count_ref n w)
  have HO := Lib.hid (outB_not n)
  generalize (decide (0 ≤ n) && decide (n ≤ 1000000000000)) = c at *
  go_enter Try.func45, Try.ntmps45
  go_wp2_with fail
  refine H.out.mono ?_
  rintro e w1 ⟨rfl, hw⟩
  rw [← hw]
  clear hw
  go_wp2
  go_ret
  exact ⟨by rw [← HO.out]; rfl, Below.refl _ _⟩

set_option maxRecDepth 100000 in
set_option maxHeartbeats 2000000 in
theorem refRows_any (W : Int) (a : Option Addr) (len cap : Nat) (R : List (List Int)) (P : Nat → Prop) (w : World) (hT : TTx w P a len cap R) :
    Calls Try.prog 20 #[.agg #[.int .i64 W, .slice a len cap]] w fun e w' => e = .returned (.int .i64 (tabE W R)) ∧ Below w.heap.size w w' := by
  have hl := hT.len
  have hm := hT.max
  have HB := Lib.hid (show Below w.heap.size w (w.alloc (.cells #[.int .i64 W, .slice a len cap] 39)) from (Below.refl _ _).alloc (Nat.le_refl _) _)
  have HX := Lib.hid (MapKept.heap_alloc w (.cells #[.int .i64 W, .slice a len cap] 39)).1
  obtain ⟨v0, hv0⟩ : ∃ v, w.alloc (.cells #[.int .i64 W, .slice a len cap] 39) = v := ⟨_, rfl⟩
  rw [hv0] at HB HX
  have HV := Lib.hid hv0
  have HW1 := fun U => within_ref W 1 32 U
  have HW2 := fun U => within_ref (len : Int) 1 4 U
  obtain ⟨t1, ht1⟩ : ∃ t, (decide (1 ≤ W) && decide (W ≤ 32)) = t := ⟨_, rfl⟩
  obtain ⟨t2, ht2⟩ : ∃ t, (decide (1 ≤ (len : Int)) && decide ((len : Int) ≤ 4)) = t := ⟨_, rfl⟩
  rw [ht1] at HW1
  rw [ht2] at HW2
  replace HW1 := Lib.hid HW1
  replace HW2 := Lib.hid HW2
  clear hv0
  cases t1
  · have hbad : W < 1 ∨ 32 < W := by
      rw [Bool.and_eq_false_iff, decide_eq_false_iff_not, decide_eq_false_iff_not] at ht1
      omega
    rw [tabE_arg (by rcases hbad with h | h; exact Or.inl h; exact Or.inr (Or.inl h))]
    clear ht1 ht2 hbad hT
    go_enter Try.func20, Try.ntmps20
    go_upto_region 1 with fail
    rw [HV.out]
    obtain ⟨X, hX⟩ : ∃ X, w.heap.size = X := ⟨_, rfl⟩
    rw [hX] at HX ⊢
    clear HV
    obtain ⟨⟨c0, c1⟩, _⟩ := two_cells HX.out
    go_wp2_with fail
    refine (HW1.out _).mono ?_
    rintro e w1 ⟨rfl, hw1⟩
    rw [← hw1]
    clear hw1
    go_wp2
    go_ret
    exact ⟨rfl, HB.out⟩
  rw [Bool.and_eq_true, decide_eq_true_iff, decide_eq_true_iff] at ht1
  cases t2
  · have hbad : R.length < 1 ∨ 4 < R.length := by
      rw [Bool.and_eq_false_iff, decide_eq_false_iff_not, decide_eq_false_iff_not] at ht2
      omega
    rw [tabE_arg (by rcases hbad with h | h; exact Or.inr (Or.inr (Or.inl h)); exact Or.inr (Or.inr (Or.inr h)))]
    clear ht1 ht2 hbad hT
    go_enter Try.func20, Try.ntmps20
    go_upto_region 1 with fail
    rw [HV.out]
    obtain ⟨X, hX⟩ : ∃ X, w.heap.size = X := ⟨_, rfl⟩
    rw [hX] at HX ⊢
    clear HV
    obtain ⟨⟨c0, c1⟩, _⟩ := two_cells HX.out
    go_wp2_with fail
    refine (HW1.out _).mono ?_
    rintro e w1 ⟨rfl, hw1⟩
    rw [← hw1]
    clear hw1
    go_wp2_with fail
    refine (HW2.out _).mono ?_
    rintro e w1 ⟨rfl, hw1⟩
    rw [← hw1]
    clear hw1
    go_wp2
    go_ret
    exact ⟨rfl, HB.out⟩
  rw [Bool.and_eq_true, decide_eq_true_iff, decide_eq_true_iff] at ht2
  obtain ⟨h1', h2'⟩ := ht1
  have h3' : 1 ≤ len := by omega
  have h4' : len ≤ 4 := by omega
  rw [tabE_rows h1' h2' (by omega) (by omega)]
  obtain ⟨r, hr⟩ : ∃ r, rowsE W R = r := ⟨_, rfl⟩
  rw [hr]
  have HR := Lib.hid hr
  have HT := Lib.hid hT
  have HL := Lib.hid hl
  clear hr hT hl ht2
  go_enter Try.func20, Try.ntmps20
  go_upto_region 1 with fail
  rw [HV.out]
  obtain ⟨X, hX⟩ : ∃ X, w.heap.size = X := ⟨_, rfl⟩
  rw [hX] at HX ⊢
  have HXX := Lib.hid hX
  clear HV hX
  obtain ⟨⟨c0, c1⟩, _⟩ := two_cells HX.out
  go_wp2_with fail
  refine (HW1.out _).mono ?_
  rintro e w1 ⟨rfl, hw1⟩
  rw [← hw1]
  clear hw1
  go_wp2_with fail
  refine (HW2.out _).mono ?_
  rintro e w1 ⟨rfl, hw1⟩
  rw [← hw1]
  clear hw1
  go_wp2_with fail
  clear c0 c1
  go_loopg [19] len (fun g i wr => ∃ k : Nat, k + g = len ∧ i = .int .i64 k ∧ Hid (∀ j, j < k → ∀ q, R[j]? = some q → rowE W q = 0) ∧ Hid (Below v0.heap.size v0 wr))
  case atStart => exact ⟨0, by omega, rfl, Lib.hid (fun j hj => by omega), Lib.hid (Below.refl _ _)⟩
  case round =>
    obtain ⟨k, hk0, rfl, HN, HW⟩ := hrel
    have HJ := Lib.hid hk0
    have hk : k ≤ len := by omega
    clear hk0
    have HBW := Lib.hid (below_on HB.out HW.out)
    by_cases hlt : k < len
    · obtain ⟨q, hq⟩ : ∃ x, R[k]? = some x := ⟨_, List.getElem?_eq_getElem (by rw [HL.out]; exact hlt)⟩
      obtain ⟨b1, o1, qa, qn, qc, ha, hbs, c0, hTq, hqn, hqc, hqm⟩ := HT.out.row HBW.out hq
      obtain ⟨⟨d0, d1⟩, _⟩ := two_cells (kept HW.out HX.out)
      have HQ := Lib.hid hq
      have HTQ := Lib.hid hTq
      have HQN := Lib.hid hqn
      subst ha
      clear hq hTq hqn
      by_cases hw : (qn : Int) ≠ W
      · have tw : ((qn : Int) != W) = true := by simpa using hw
        obtain rfl : r = 7 := by
          rw [← HR.out]
          have e7 : rowE W q = 7 := rowE_len (by rw [HQN.out]; exact hw)
          rw [rowsE_here HQ.out (by rw [e7]; decide) HN.out, e7]
        clear hw
        go_wp2
        go_ret
        exact ⟨rfl, HBW.out⟩
      · obtain rfl : W = (qn : Int) := by omega
        have tw : ((qn : Int) != (qn : Int)) = false := by simp
        clear hw
        have HC := Lib.hid (containsFunc0_any 45 outB qa qn qc q wr HTQ.out (fun _ _ => rfl) (fun x _ W _ => rowsClo_any x W))
        cases hany : q.any outB
        · rw [hany] at HC
          have HN' : Hid (∀ j, j < k + 1 → ∀ y, R[j]? = some y → rowE (qn : Int) y = 0) := Lib.hid (fun j hj y hy => by
            by_cases hjk : j = k
            · subst hjk
              rw [HQ.out, Option.some.injEq] at hy
              rw [← hy]; exact rowE_ok (by rw [HQN.out]) hany
            · exact HN.out j (by omega) y hy)
          clear hany
          go_wp2_with fail
          refine HC.out.mono ?_
          rintro e w1 ⟨rfl, hb⟩
          have HW1 := Lib.hid (below_on HW.out hb)
          clear hb
          go_wp2_with fail
          go_roundg (len - (k + 1))
          case measure => have := HJ.out; omega
          case rel => exact ⟨k + 1, by omega, by go_num, HN', HW1⟩
        · rw [hany] at HC
          obtain rfl : r = 1 := by
            rw [← HR.out]
            have e7 : rowE (qn : Int) q = 1 := rowE_out (by rw [HQN.out]) hany
            rw [rowsE_here HQ.out (by rw [e7]; decide) HN.out, e7]
          clear hany
          go_wp2_with fail
          refine HC.out.mono ?_
          rintro e w1 ⟨rfl, hb⟩
          have HW1 := Lib.hid (below_on HBW.out hb)
          clear hb
          go_wp2
          go_ret
          exact ⟨rfl, HW1.out⟩
    · obtain rfl : k = len := by omega
      obtain rfl : r = 0 := by
        rw [← HR.out]
        exact rowsE_none (fun j q hq => HN.out j (by have := (List.getElem?_eq_some_iff.1 hq).1; rw [HL.out] at this; exact this) q hq)
      go_wp2
      go_ret
      exact ⟨rfl, HBW.out⟩

set_option maxRecDepth 100000 in
set_option maxHeartbeats 2000000 in
theorem refPlace_any (s : Nat) (x : Int) (i : Nat) (h1 : 1 ≤ s) (h2 : s ≤ 32) (hi : i ≤ 4) (a : Option Addr) (len cap : Nat) (w : World) :
    Calls Try.prog 23 #[.agg #[.int .i64 s, .slice a len cap], .int .i64 i, .int .i64 x] w fun e w' => e = .returned (.int .i64 (colN s x i)) ∧ Below w.heap.size w w' := by
  have HB := Lib.hid (show Below w.heap.size w (w.alloc (.cells #[.int .i64 s, .slice a len cap] 39)) from (Below.refl _ _).alloc (Nat.le_refl _) _)
  have HX := Lib.hid (MapKept.heap_alloc w (.cells #[.int .i64 s, .slice a len cap] 39)).1
  obtain ⟨v0, hv0⟩ : ∃ v, w.alloc (.cells #[.int .i64 s, .slice a len cap] 39) = v := ⟨_, rfl⟩
  rw [hv0] at HB HX
  have HV := Lib.hid hv0
  have hA := arg_place (x := x) (i := (i : Int)) (j := i) rfl
  have HA := Lib.hid hA
  have HM := Lib.hid (fun W => refMix_any (argN x i) (argN_lt x i) W)
  have hZ := col_walk (x := x) (j := i) h1 h2
  have HZ := Lib.hid hZ
  have HZ2 : Hid (wrap64 (((MixMath.mixN (argN x i) : Nat) : Int) % (s : Int)) = ((colN s x i : Nat) : Int)) := Lib.hid (by
    have h := colN_lt (x := x) (i := i) h1
    rw [← Int.natCast_emod, ← colN_def]
    unfold wrap64
    omega)
  have hws : ¬ (IntKind.u64.wrap (s : Int) = 0) := by rw [IntKind.wrap_u64]; omega
  clear hv0 hA hZ
  go_enter Try.func23, Try.ntmps23
  go_upto_region 1 with fail
  rw [HV.out]
  obtain ⟨X, hX⟩ : ∃ X, w.heap.size = X := ⟨_, rfl⟩
  rw [hX] at HX ⊢
  have HXX := Lib.hid hX
  obtain ⟨⟨c0, c1⟩, _⟩ := two_cells HX.out
  clear HV hX
  go_wp2_with fail
  go_region_with (first | (go_at_call 41; rw [HA.out]; refine (HM.out _).mono ?_; rintro e w5 ⟨rfl, rfl⟩))
  all_goals
    go_wp2_with fail
    go_ret
    first
    | exact ⟨ret_int HZ.out, HB.out.drew⟩
    | exact ⟨ret_int HZ2.out, HB.out.drew⟩
    | exact ⟨ret_int HZ.out, HB.out⟩
    | exact ⟨ret_int HZ2.out, HB.out⟩
end Go.Proofs.Ytcfejbhoeichnaa
