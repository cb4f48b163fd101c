/- The contract of the document's own test of filters (culref.Filter). -/
import Derived.Test.YtcfejbhoeichnaaBloomPut
import Derived.Test.YtcfejbhoeichnaaRefWithin
namespace Go.Proofs.Ytcfejbhoeichnaa
open Go.ChangeShapes Go.WideShapes Go.ChangeAt Go.RowKit
open Bloom

set_option maxRecDepth 100000 in
set_option maxHeartbeats 1000000 in
theorem refFilter_any (S K : Int) (a : Option Addr) (len cap : Nat) (w : World) (hm : len ≤ 9223372036854775807) :
    Calls Try.prog 12 #[.agg #[.int .i64 S, .int .i64 K, .slice a len cap]] w fun e w' => e = .returned (.int .i64 (filterE S K len)) ∧ Below w.heap.size w w' := by
  have HB := Lib.hid (show Below w.heap.size w (w.alloc (.cells #[.int .i64 S, .int .i64 K, .slice a len cap] 24)) from (Below.refl _ _).alloc (Nat.le_refl _) _)
  have HW1 := fun W => within_ref S 1 256 W
  have HW2 := fun W => within_ref K 1 8 W
  obtain ⟨t1, ht1⟩ : ∃ t, (decide (1 ≤ S) && decide (S ≤ 256)) = t := ⟨_, rfl⟩
  obtain ⟨t2, ht2⟩ : ∃ t, (decide (1 ≤ K) && decide (K ≤ 8)) = t := ⟨_, rfl⟩
  rw [ht1] at HW1
  rw [ht2] at HW2
  replace HW1 := Lib.hid HW1
  replace HW2 := Lib.hid HW2
  have hE : filterE S K len = if t1 = false ∨ t2 = false then 1 else if (len : Int) ≠ S then 7 else 0 := by
    unfold filterE
    have e1 : (t1 = false ∨ t2 = false) ↔ (S < 1 ∨ 256 < S ∨ K < 1 ∨ 8 < K) := by
      rw [← ht1, ← ht2, Bool.and_eq_false_iff, Bool.and_eq_false_iff, decide_eq_false_iff_not, decide_eq_false_iff_not, decide_eq_false_iff_not, decide_eq_false_iff_not]
      omega
    by_cases h : S < 1 ∨ 256 < S ∨ K < 1 ∨ 8 < K
    · rw [if_pos h, if_pos (e1.2 h)]
    · rw [if_neg h, if_neg (fun h2 => h (e1.1 h2))]
  rw [hE]
  clear hE
  cases t1
  · rw [if_pos (Or.inl rfl)]
    clear ht1 ht2
    go_enter Try.func12, Try.ntmps12
    go_wp2_with fail
    refine (HW1.out _).mono ?_
    rintro e w1 ⟨rfl, hw1⟩
    rw [← hw1]
    clear hw1
    go_wp2
    go_ret
    exact ⟨rfl, HB.out⟩
  cases t2
  · rw [if_pos (Or.inr rfl)]
    clear ht1 ht2
    go_enter Try.func12, Try.ntmps12
    go_wp2_with fail
    refine (HW1.out _).mono ?_
    rintro e w1 ⟨rfl, hw1⟩
    rw [← hw1]
    clear hw1
    go_wp2_with fail
    refine (HW2.out _).mono ?_
    rintro e w1 ⟨rfl, hw1⟩
    rw [← hw1]
    clear hw1
    go_wp2
    go_ret
    exact ⟨rfl, HB.out⟩
  rw [if_neg (by simp)]
  rw [Bool.and_eq_true, decide_eq_true_iff, decide_eq_true_iff] at ht1
  obtain ⟨s1, s2⟩ := ht1
  clear ht2
  by_cases h5 : (len : Int) ≠ S
  · rw [if_pos h5]
    have t : ((len : Int) != S) = true := by simpa using h5
    clear h5
    go_enter Try.func12, Try.ntmps12
    go_wp2_with fail
    refine (HW1.out _).mono ?_
    rintro e w1 ⟨rfl, hw1⟩
    rw [← hw1]
    clear hw1
    go_wp2_with fail
    refine (HW2.out _).mono ?_
    rintro e w1 ⟨rfl, hw1⟩
    rw [← hw1]
    clear hw1
    go_wp2
    go_ret
    exact ⟨rfl, HB.out⟩
  · rw [if_neg h5]
    have t : ((len : Int) != S) = false := by simpa using h5
    clear h5
    go_enter Try.func12, Try.ntmps12
    go_wp2_with fail
    refine (HW1.out _).mono ?_
    rintro e w1 ⟨rfl, hw1⟩
    rw [← hw1]
    clear hw1
    go_wp2_with fail
    refine (HW2.out _).mono ?_
    rintro e w1 ⟨rfl, hw1⟩
    rw [← hw1]
    clear hw1
    go_wp2
    go_ret
    exact ⟨rfl, HB.out⟩
end Go.Proofs.Ytcfejbhoeichnaa
