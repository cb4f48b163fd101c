/- The contract of the program's comb.Some. -/
import Derived.Test.YtanfkolcoaofdaaCombMath
import Derived.Test.YtanfkolcoaofdaaCombLast
import Derived.Test.YtanfkolcoaofdaaInfoInts
import Derived.Test.YtanfkolcoaofdaaRefGateMath
namespace Go.Proofs.Ytanfkolcoaofdaa
open Go.ChangeShapes Go.WideShapes Go.ChangeAt Go.RowKit
open Binom

theorem set_behind {i : Nat} {x : Int} {T : List Int} : (List.replicate (i + 1) (0 : Int) ++ T).set i x = List.replicate i 0 ++ x :: T := by
  rw [List.set_append_left _ _ (by simp), List.replicate_succ', List.set_append_right _ _ (by simp)]
  simp
set_option maxRecDepth 100000 in
set_option maxHeartbeats 1000000 in
theorem some_ok (k r : Nat) (hk : k ≤ 30) (hr : r < binom 30 k) (w : World) :
    Calls Try.prog 28 #[.int .i64 k, .int .i64 r] w fun e w' => ∃ v, e = .returned (.tuple #[v, .int .i64 0]) ∧ Own w' w.heap.size 3 1 v ((nn (someOf k 30 r)).map iC) ∧ Below w.heap.size w w' := by
  obtain ⟨i0, hi, hz0, hz1, hz2⟩ := info_parts info_int
  have C := Lib.hid (choose_any 30 k (by omega) hk)
  have hmx := le_max k (Nat.le_refl 30)
  have HR := Lib.hid hr
  have hr2 : r ≤ 1073741824 := by omega
  clear hr
  generalize hB : binom 30 k = B at *
  have HBB := Lib.hid hB
  clear hB
  have t0 : r < B := HR.out
  go_enter Try.func28, Try.ntmps28
  go_wp2_with fail
  refine (C.out _).mono ?_
  rintro e w1 ⟨rfl, rfl⟩
  go_wp2_with (first | (at_make; refine wpList_make_full _ rfl _ _ 22 rfl w.heap.size 3 i0 (.int .i64 0) 1 Try.underlying22 hi hz0 hz1 _ _ _ _ k rfl rfl rfl rfl (by rw [hz2]; omega) (by unfold maxLen; omega) (Nat.le_refl _) ?_; intro w1 hO1 hg1))
  have hO : Own w1 w.heap.size 3 1 (.slice (some ⟨w.heap.size, 0, none⟩) k k) ((List.replicate k 0).map iC) := Own.full hO1 (made_ints k)
  have hb : Below w.heap.size w w1 := (Below.refl _ _).grown hg1 (Nat.le_refl _) (fun j hj => by cases hj)
  have HO := Lib.hid hO
  clear hO hO1 hg1 hi hz0 hz1 hz2 C
  go_loopg [1, 7, 8] k (fun g rr t i wr => ∃ (n top q : Nat) (T : List Nat), Hid (n = g) ∧ n ≤ k ∧ q ≤ 1073741824 ∧ top ≤ 30 ∧ rr = .int .i64 (q : Nat) ∧ t = .int .i64 (top : Nat) ∧ i = .int .i64 ((n : Int) - 1) ∧ Hid (q < binom top n ∧ someOf k 30 r = someOf n top q ++ T ∧ Own wr w.heap.size 3 1 (.slice (some ⟨w.heap.size, 0, none⟩) k k) ((List.replicate n 0 ++ nn T).map iC) ∧ Below w.heap.size w wr))
  case atStart => exact ⟨k, 30, r, [], Lib.hid rfl, Nat.le_refl _, hr2, by omega, rfl, rfl, by go_num, Lib.hid ⟨by rw [HBB.out]; exact HR.out, by simp, by simpa [nn] using HO.out, hb⟩⟩
  case round =>
    obtain ⟨n, top, q, T, HM, hn, hq, ht, rfl, rfl, rfl, HH⟩ := hrel
    clear hb
    rcases n with _ | n
    · have hO := HH.out.2.2.1
      have e1 := HH.out.2.1
      have hb := HH.out.2.2.2
      simp only [List.replicate_zero, List.nil_append] at hO
      simp only [someOf, List.nil_append] at e1
      rw [← e1] at hO
      have HO2 := Lib.hid hO
      clear hO e1 HO
      go_wp2
      go_ret2
      exact ⟨_, rfl, HO2.out, hb⟩
    · rw [show (((n + 1 : Nat) : Int) - 1) = (n : Int) from by omega]
      have ht1 : 1 ≤ top := by
        have := HH.out.1
        rcases Nat.eq_zero_or_pos top with h | h
        · rw [h, zero_succ] at this; omega
        · exact h
      have HL := Lib.hid (last_any top n q ht1 ht (by omega) hq)
      obtain ⟨f1, f2, f3⟩ := last_ok HH.out.1
      have e1 := HH.out.2.1
      rw [someOf] at e1
      generalize hx : lastOf (n + 1) q (top - 1) = x at *
      clear hx
      have HC := Lib.hid (choose_any x (n + 1) (by omega) (by omega))
      rw [show ((n + 1 : Nat) : Int) = (n : Int) + 1 from by omega] at HC
      generalize hy : binom x (n + 1) = y at *
      have HF := Lib.hid (And.intro f3 e1)
      clear hy e1 f3
      have hO := HH.out.2.2.1
      have hb := HH.out.2.2.2
      obtain ⟨u, hu⟩ : ∃ u, (List.replicate (n + 1) 0 ++ nn T)[n]? = some u := ⟨0, by rw [List.getElem?_append_left (by simp), List.getElem?_replicate, if_pos (by omega)]⟩
      obtain ⟨c1, g1, g2, g3⟩ := hO.at1 (map_get hu)
      have HS := Lib.hid (hO.set1 (map_get hu) (.int .i64 x))
      clear hO hu HO
      go_wp2_with fail
      refine (HL.out _).mono ?_
      rintro e w2 ⟨rfl, rfl⟩
      go_wp2_with fail
      refine (HC.out _).mono ?_
      rintro e w2 ⟨rfl, rfl⟩
      go_wp2
      go_roundg n
      case measure => have := HM.out; omega
      case rel =>
        refine ⟨n, x, q - y, x :: T, Lib.hid rfl, by omega, by omega, by omega, by go_num, rfl, by go_num, Lib.hid ⟨HF.out.1, by rw [HF.out.2, List.append_assoc]; rfl, ?_, hb.setCell (Nat.le_refl _) _⟩⟩
        have := HS.out
        rw [← show iC (x : Int) = [Value.int .i64 (x : Int)] from rfl, ← List.map_set, set_behind] at this
        exact this
set_option maxRecDepth 100000 in
set_option maxHeartbeats 1000000 in
theorem some_bad (k r : Int) (h : k < 0 ∨ 30 < k) (w : World) :
    Calls Try.prog 28 #[.int .i64 k, .int .i64 r] w fun e w' => e = .returned (.tuple #[.slice none 0 0, .int .i64 1]) ∧ w = w' := by
  by_cases h1 : k < 0
  · clear h
    go_enter Try.func28, Try.ntmps28
    go_wp2
    go_ret2
    exact ⟨rfl, rfl⟩
  · have h2 : 30 < k := by omega
    clear h
    go_enter Try.func28, Try.ntmps28
    go_wp2
    go_ret2
    exact ⟨rfl, rfl⟩
set_option maxRecDepth 100000 in
set_option maxHeartbeats 1000000 in
theorem some_none (k : Nat) (r : Int) (hk : k ≤ 30) (h : r < 0 ∨ (binom 30 k : Int) ≤ r) (w : World) :
    Calls Try.prog 28 #[.int .i64 k, .int .i64 r] w fun e w' => e = .returned (.tuple #[.slice none 0 0, .int .i64 4]) ∧ w = w' := by
  by_cases h1 : r < 0
  · clear h
    go_enter Try.func28, Try.ntmps28
    go_wp2
    go_ret2
    exact ⟨rfl, rfl⟩
  · have h2 : (binom 30 k : Int) ≤ r := by omega
    have C := Lib.hid (choose_any 30 k (by omega) hk)
    clear h
    generalize binom 30 k = B at *
    go_enter Try.func28, Try.ntmps28
    go_wp2_with fail
    refine (C.out _).mono ?_
    rintro e w1 ⟨rfl, rfl⟩
    go_wp2
    go_ret2
    exact ⟨rfl, rfl⟩
/-- Some at every k and rank -/
theorem some_any (k r : Int) (w : World) :
    Calls Try.prog 28 #[.int .i64 k, .int .i64 r] w fun e w' => ∃ v, e = .returned (.tuple #[v, .int .i64 (someP k r).2]) ∧ Own w' w.heap.size 3 1 v ((someP k r).1.map iC) ∧ Below w.heap.size w w' := by
  unfold someP
  split
  · exact (some_bad k r (by assumption) w).mono fun e w' ⟨h1, h2⟩ => ⟨_, h1, Own.nil _ _ _ _, h2 ▸ Below.refl _ _⟩
  · obtain ⟨k, rfl⟩ := Int.eq_ofNat_of_zero_le (show 0 ≤ k by omega)
    rw [Int.toNat_natCast]
    split
    · exact (some_none k r (by omega) (by assumption) w).mono fun e w' ⟨h1, h2⟩ => ⟨_, h1, Own.nil _ _ _ _, h2 ▸ Below.refl _ _⟩
    · obtain ⟨r, rfl⟩ := Int.eq_ofNat_of_zero_le (show 0 ≤ r by omega)
      rw [Int.toNat_natCast]
      exact some_ok k r (by omega) (by omega) w

end Go.Proofs.Ytanfkolcoaofdaa
