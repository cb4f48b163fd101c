/- Contracts of the program's state.markPairs and state.Set. -/
import Derived.Test.YtfocmnjkoominaaDoorStateOthers
namespace Go.Proofs.YtfocmnjkoominaaDoor
open Go.ChangeShapes Go.WideShapes Go.ChangeAt Go.RowKit
open StateMath

set_option maxRecDepth 100000 in
set_option maxHeartbeats 2000000 in
theorem markPairs_bad (th rv : Int) (ht hr : Bool) (w : World) (h : mkOk ⟨th, rv, ht, hr⟩ = false) :
    Calls Tryd.prog 13 #[.agg #[.int .i64 th, .int .i64 rv, .bool ht, .bool hr]] w fun e w' => e = .returned (.tuple #[.slice none 0 0, .int .i64 1]) ∧ Below w.heap.size w w' := by
  have hb0 : Below w.heap.size w (w.alloc (.cells (mkC ⟨th, rv, ht, hr⟩) 24)) := (Below.refl _ _).alloc (Nat.le_refl _) _
  by_cases h1 : th < 0 ∨ 72057594037927936 ≤ th
  · have H := Lib.hid (fun w => th_bad th w h1)
    clear h h1
    go_enter Tryd.func13, Tryd.ntmps13
    go_wp2_with fail
    refine (H.out _).mono ?_
    rintro e w1 ⟨rfl, rfl⟩
    go_wp2
    go_ret2
    exact ⟨rfl, hb0⟩
  · have h2 : rv < 0 ∨ 72057594037927936 ≤ rv := by
      unfold mkOk at h
      simp at h
      omega
    have H := Lib.hid (fun w => th_int th w (by omega) (by omega))
    have H2 := Lib.hid (fun w => rv_bad rv w h2)
    clear h h1 h2
    go_enter Tryd.func13, Tryd.ntmps13
    go_wp2_with fail
    refine (H.out _).mono ?_
    rintro e w1 ⟨rfl, hb1⟩
    obtain ⟨c0, c1, c2, c3, f0, f1, f2, f3⟩ := four_of (m := ⟨th, rv, ht, hr⟩) (heap_new _ _ _ hb1)
    have HB := Lib.hid (below_on hb0 hb1)
    clear hb0 hb1 H
    go_wp2_with fail
    refine (H2.out _).mono ?_
    rintro e w2 ⟨rfl, rfl⟩
    go_wp2
    go_ret2
    exact ⟨rfl, HB.out⟩

set_option maxRecDepth 100000 in
set_option maxHeartbeats 2000000 in
theorem markPairs_ok (th rv : Int) (ht hr : Bool) (w : World) (h : mkOk ⟨th, rv, ht, hr⟩ = true) :
    Calls Tryd.prog 13 #[.agg #[.int .i64 th, .int .i64 rv, .bool ht, .bool hr]] w fun e w' =>
      ∃ v, e = .returned (.tuple #[v, .int .i64 0]) ∧ Own w' w.heap.size 31 2 v ((marksOf ⟨th, rv, ht, hr⟩).map ssC) ∧ Below w.heap.size w w' := by
  have hb0 : Below w.heap.size w (w.alloc (.cells (mkC ⟨th, rv, ht, hr⟩) 24)) := (Below.refl _ _).alloc (Nat.le_refl _) _
  obtain ⟨h1, h2, h3, h4⟩ : 0 ≤ th ∧ th < 72057594037927936 ∧ 0 ≤ rv ∧ rv < 72057594037927936 := by
    unfold mkOk at h
    simp at h
    omega
  have H := Lib.hid (fun w => th_int th w h1 h2)
  have H2 := Lib.hid (fun w => rv_int rv w h3 h4)
  clear h h1 h2 h3 h4
  have HM : Hid (marksOf ⟨th, rv, ht, hr⟩ = (if ht then [(⟨#[116, 104]⟩, thB th.toNat)] else []) ++ (if hr then [(⟨#[114, 118]⟩, rvB rv.toNat)] else [])) := rfl
  generalize thB th.toNat = X at *
  generalize rvB rv.toNat = Y at *
  go_enter Tryd.func13, Tryd.ntmps13
  go_wp2_with fail
  refine (H.out _).mono ?_
  rintro e w1 ⟨rfl, hb1⟩
  have HN1 := Lib.hid (heap_new _ _ _ hb1)
  obtain ⟨c0, c1, c2, c3, f0, f1, f2, f3⟩ := four_of (m := ⟨th, rv, ht, hr⟩) HN1.out
  have HB1 := Lib.hid (below_on hb0 hb1)
  clear hb0 hb1 H
  go_wp2_with fail
  refine (H2.out _).mono ?_
  rintro e w2 ⟨rfl, hb2⟩
  have hlt1 : w.heap.size < w1.heap.size := (Array.getElem?_eq_some_iff.1 HN1.out).1
  have HN2 : Hid (w2.heap[w.heap.size]? = some (.cells (mkC ⟨th, rv, ht, hr⟩) 24 (0, 0))) := (hb2.block _ hlt1).trans HN1.out
  clear c0 c1 c2 c3 f0 f1 f2 f3 HN1 H2
  obtain ⟨c0, c1, c2, c3, f0, f1, f2, f3⟩ := four_of HN2.out
  have hlt2 : w.heap.size < w2.heap.size := (Array.getElem?_eq_some_iff.1 HN2.out).1
  have HB2 := Lib.hid (below_on HB1.out hb2)
  clear hb2 HB1
  have hO := Own.nil w2 (w.heap.size + 1) 31 2
  cases ht
  · cases hr
    · go_wp2
      go_ret2
      exact ⟨_, rfl, by rw [HM.out]; exact Own.nil _ _ _ _, HB2.out⟩
    · go_wp2_with (first | (at_builtin; refine wpList_append_rows _ rfl _ _ 22 rfl (w.heap.size + 1) 31 _ 2 32 Tryd.underlying22 info_pair rfl (by decide) _ [] rfl (hO.alloc _) ⟨w2.heap.size, 0, none⟩ 1 1 [[.string ⟨#[114, 118]⟩, .string Y]] rfl rfl (by simp) (one_row _ _ _ _ (by simp)) (by simp [Value.oneCell']) (by simp) (by decide) (by simp; omega) ?_; intro v' w3 hO1 hg1))
      go_ret2
      exact ⟨_, rfl, by rw [HM.out]; exact hO1.base_le (by omega), (hO.alloc _).under (HB2.out.alloc (by omega) _) (by omega) (by simp; omega) hg1⟩
  · cases hr
    · go_wp2_with (first | (at_builtin; refine wpList_append_rows _ rfl _ _ 22 rfl (w.heap.size + 1) 31 _ 2 32 Tryd.underlying22 info_pair rfl (by decide) _ [] rfl (hO.alloc _) ⟨w2.heap.size, 0, none⟩ 1 1 [[.string ⟨#[116, 104]⟩, .string X]] rfl rfl (by simp) (one_row _ _ _ _ (by simp)) (by simp [Value.oneCell']) (by simp) (by decide) (by simp; omega) ?_; intro v' w3 hO1 hg1; have HN3 := Lib.hid (blk_grown (w := w) hO hg1 (Nat.lt_succ_self _) HN2.out); clear c0 c1 c2 c3 f0 f1 f2 f3; obtain ⟨c0, c1, c2, c3, f0, f1, f2, f3⟩ := four_of HN3.out))
      go_ret2
      exact ⟨_, rfl, by rw [HM.out]; exact hO1.base_le (by omega), (hO.alloc _).under (HB2.out.alloc (by omega) _) (by omega) (by simp; omega) hg1⟩
    · go_wp2_with (first | (at_builtin; refine wpList_append_rows _ rfl _ _ 22 rfl (w.heap.size + 1) 31 _ 2 32 Tryd.underlying22 info_pair rfl (by decide) _ [] rfl (hO.alloc _) ⟨w2.heap.size, 0, none⟩ 1 1 [[.string ⟨#[116, 104]⟩, .string X]] rfl rfl (by simp) (one_row _ _ _ _ (by simp)) (by simp [Value.oneCell']) (by simp) (by decide) (by simp; omega) ?_; intro v' w3 hO1 hg1; have HN3 := Lib.hid (blk_grown (w := w) hO hg1 (Nat.lt_succ_self _) HN2.out); clear c0 c1 c2 c3 f0 f1 f2 f3; obtain ⟨c0, c1, c2, c3, f0, f1, f2, f3⟩ := four_of HN3.out; have hlt3 : w.heap.size < w3.heap.size := (Array.getElem?_eq_some_iff.1 HN3.out).1) | (at_builtin; refine wpList_append_rows _ rfl _ _ 22 rfl (w.heap.size + 1) 31 _ 2 32 Tryd.underlying22 info_pair rfl (by decide) _ _ rfl (hO1.alloc _) ⟨w3.heap.size, 0, none⟩ 1 1 [[.string ⟨#[114, 118]⟩, .string Y]] rfl rfl (by simp) (one_row _ _ _ _ (by simp)) (by simp [Value.oneCell']) (by simp) (by decide) (by simp; omega) ?_; intro v'' w4 hO2 hg2))
      go_ret2
      exact ⟨_, rfl, by rw [HM.out]; exact hO2.base_le (by omega), (hO1.alloc _).under (((hO.alloc _).under (HB2.out.alloc (by omega) _) (by omega) (by simp; omega) hg1).alloc (by omega) _) (by omega) (by simp; omega) hg2⟩
end Go.Proofs.YtfocmnjkoominaaDoor
