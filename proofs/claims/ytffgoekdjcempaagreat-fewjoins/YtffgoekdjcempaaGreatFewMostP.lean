/- The contract of the program's few.Most (Boyer, Moore). -/
import Derived.Test.YtffgoekdjcempaaGreatFewMath
import Derived.Test.YtffgoekdjcempaaGreatShapes
import Derived.WalkKit
import Derived.OwnWalk
import Derived.Deep.LoopGhost
namespace Go.Proofs.YtffgoekdjcempaaGreat
open Go.ChangeShapes Go.WideShapes Go.ChangeAt Go.RowKit
open Few

namespace Few
/-- Boyer, Moore: what the candidate is worth after k elements -/
structure Cand (l : List Int) (k : Nat) (x : Int) (n : Nat) : Prop where
  self : 2 * (l.take k).count x ≤ k + n
  other : ∀ z, z ≠ x → 2 * (l.take k).count z + n ≤ k
theorem cand_zero (l : List Int) : Cand l 0 0 0 := ⟨by simp, by simp⟩
theorem cand_new {l : List Int} {k : Nat} {x y : Int} (h : Cand l k x 0) (hy : l[k]? = some y) : Cand l (k + 1) y 1 := by
  have ha : ∀ z, 2 * (l.take k).count z ≤ k := fun z => by
    rcases Decidable.em (z = x) with rfl | hz
    · have := h.self; omega
    · have := h.other z hz; omega
  refine ⟨?_, fun z hz => ?_⟩
  · rw [count_step hy, if_pos rfl]; have := ha y; omega
  · rw [count_step hy, if_neg (fun e => hz e.symm)]; have := ha z; omega
theorem cand_up {l : List Int} {k n : Nat} {x : Int} (h : Cand l k x n) (hy : l[k]? = some x) : Cand l (k + 1) x (n + 1) := by
  refine ⟨?_, fun z hz => ?_⟩
  · rw [count_step hy, if_pos rfl]; have := h.self; omega
  · rw [count_step hy, if_neg (fun e => hz e.symm)]; have := h.other z hz; omega
theorem cand_down {l : List Int} {k n : Nat} {x y : Int} (h : Cand l k x (n + 1)) (hy : l[k]? = some y) (hne : x ≠ y) : Cand l (k + 1) x n := by
  refine ⟨?_, fun z hz => ?_⟩
  · rw [count_step hy, if_neg (fun e => hne e.symm)]; have := h.self; omega
  · rw [count_step hy]
    have := h.other z hz
    split <;> omega
theorem cand_most {l : List Int} {x : Int} {n : Nat} (h : Cand l l.length x n) : (maj l x = true → mostL l = some x) ∧ (maj l x = false → mostL l = none) := by
  refine ⟨fun hm => mostL_of hm, fun hm => ?_⟩
  refine List.find?_eq_none.2 fun z _ hz => ?_
  rcases Decidable.em (z = x) with rfl | hzx
  · rw [hm] at hz; cases hz
  · have := h.other z hzx
    rw [List.take_length] at this
    unfold maj at hz
    rw [decide_eq_true_iff] at hz
    omega
end Few

set_option maxRecDepth 100000 in
set_option maxHeartbeats 2000000 in
theorem candidate_any (a : Option Addr) (len cap : Nat) (l : List Int) (w : World) (h : Tab w a len cap 1 (l.map iC)) (hn : len ≤ 1000000) :
    Calls Tryz.prog 30 #[.slice a len cap] w fun e w' => ∃ (x : Int) (n : Nat), e = .returned (.int .i64 x) ∧ Cand l len x n ∧ w' = w := by
  have hl := h.hlen
  rw [List.length_map] at hl
  have HT := Lib.hid h
  have HL := Lib.hid hl
  clear h hl
  go_enter Tryz.func30, Tryz.ntmps30
  go_wp2_with fail
  go_loopg [3, 4, 9] len (fun g x n i wr => ∃ (k : Nat) (y : Int) (m : Nat), k + g = len ∧ i = .int .i64 k ∧ x = .int .i64 y ∧ n = .int .i64 m ∧ m ≤ k ∧ Hid (Cand l k y m) ∧ wr = w)
  case atStart => exact ⟨0, 0, 0, by omega, rfl, rfl, rfl, by omega, Lib.hid (cand_zero l), rfl⟩
  case round =>
    obtain ⟨k, x, m, hk0, rfl, rfl, rfl, hm, HC, rfl⟩ := hrel
    have HJ := Lib.hid hk0
    have hk : k ≤ len := by omega
    clear hk0
    by_cases hlt : k < len
    · obtain ⟨y, hy⟩ : ∃ x, l[k]? = some x := ⟨_, List.getElem?_eq_getElem (by rw [HL.out]; exact hlt)⟩
      obtain ⟨b1, o1, ha, hbs, c0⟩ := HT.out.one (Below.refl _ _) (map_get hy)
      have HY := Lib.hid hy
      subst ha
      clear hy
      by_cases hm0 : m = 0
      · subst hm0
        go_wp2_with fail
        go_roundg (len - (k + 1))
        case measure => have := HJ.out; omega
        case rel => exact ⟨k + 1, y, 1, by omega, by go_num, rfl, rfl, by omega, Lib.hid (cand_new HC.out HY.out), rfl⟩
      · have t0 : ((m : Int) == 0) = false := by simp; omega
        by_cases hxy : x = y
        · subst hxy
          clear hm0
          go_wp2_with fail
          go_roundg (len - (k + 1))
          case measure => have := HJ.out; omega
          case rel => exact ⟨k + 1, x, m + 1, by omega, by go_num, rfl, by go_num, by omega, Lib.hid (cand_up HC.out HY.out), rfl⟩
        · have t1 : (x == y) = false := by simpa using hxy
          obtain ⟨p, rfl⟩ : ∃ p, m = p + 1 := ⟨m - 1, by omega⟩
          have HXY := Lib.hid hxy
          clear hm0 hxy
          go_wp2_with fail
          go_roundg (len - (k + 1))
          case measure => have := HJ.out; omega
          case rel => exact ⟨k + 1, x, p, by omega, by go_num, rfl, by go_num, by omega, Lib.hid (cand_down HC.out HY.out HXY.out), rfl⟩
    · obtain rfl : k = len := by omega
      have HCC := HC
      go_wp2
      go_ret
      exact ⟨x, m, rfl, HCC.out, rfl⟩

set_option maxRecDepth 100000 in
set_option maxHeartbeats 2000000 in
theorem fewMost_any (a : Option Addr) (len cap : Nat) (l : List Int) (w : World) (h : Tab w a len cap 1 (l.map iC)) (hn : len ≤ 40) :
    Calls Tryz.prog 14 #[.slice a len cap] w fun e w' => e = .returned (.tuple #[.int .i64 (mostN l), .bool (mostB l), .int .i64 0]) ∧ w' = w := by
  have hl := h.hlen
  rw [List.length_map] at hl
  have HC := Lib.hid (candidate_any a len cap l w h (by omega))
  have HT := Lib.hid h
  have HL := Lib.hid hl
  clear h hl
  go_enter Tryz.func14, Tryz.ntmps14
  go_wp2_with fail
  refine HC.out.mono ?_
  rintro e w1 ⟨x, n, rfl, hc, hw⟩
  rw [hw]
  have HD := Lib.hid (cand_most (x := x) (n := n) (l := l) (by rw [HL.out]; exact hc))
  clear hc hw HC
  go_wp2_with fail
  go_loopg [6, 16] len (fun g n i wr => ∃ j : Nat, j + g = len ∧ i = .int .i64 j ∧ n = .int .i64 (((l.take j).count x : Nat) : Int) ∧ wr = w)
  case atStart => exact ⟨0, by omega, rfl, rfl, rfl⟩
  case round =>
    obtain ⟨j, hj0, rfl, rfl, rfl⟩ := hrel
    have HJ2 := Lib.hid hj0
    have hj : j ≤ len := by omega
    have hc : (l.take j).count x ≤ j := Nat.le_trans List.count_le_length (by rw [List.length_take]; omega)
    clear hj0
    by_cases hjl : j < len
    · obtain ⟨y, hy⟩ : ∃ y, l[j]? = some y := ⟨_, List.getElem?_eq_getElem (by rw [HL.out]; exact hjl)⟩
      obtain ⟨b2, o2, ha2, hbs2, e0⟩ := HT.out.one (Below.refl _ _) (map_get hy)
      have HS := Lib.hid (count_step (x := x) hy)
      subst ha2
      clear hy
      by_cases hxy : x = y
      · subst hxy
        have t1 : (x == x) = true := by simp
        rw [if_pos rfl] at HS
        generalize (l.take j).count x = c at *
        go_wp2_with fail
        go_roundg (len - (j + 1))
        case measure => have := HJ2.out; omega
        case rel => exact ⟨j + 1, by omega, by go_num, by rw [HS.out]; rfl, rfl⟩
      · have t1 : (x == y) = false := by simpa using hxy
        rw [if_neg (fun e => hxy e.symm)] at HS
        generalize (l.take j).count x = c at *
        clear hxy
        go_wp2_with fail
        go_roundg (len - (j + 1))
        case measure => have := HJ2.out; omega
        case rel => exact ⟨j + 1, by omega, by go_num, by rw [HS.out]; rfl, rfl⟩
    · obtain rfl : j = len := by omega
      rw [List.take_of_length_le (by rw [HL.out]; exact Nat.le_refl _)] at hc ⊢
      cases hm : maj l x with
      | true =>
        have hm2 : j < 2 * l.count x := by
          have := hm
          unfold maj at this
          rw [decide_eq_true_iff, HL.out] at this
          exact this
        have hr := HD.out.1 hm
        have r1 : mostN l = x := by unfold mostN; rw [hr]; rfl
        have r2 : mostB l = true := by unfold mostB; rw [hr]; rfl
        have R1 := Lib.hid r1
        have R2 := Lib.hid r2
        generalize l.count x = c at *
        clear hm hr r1 r2
        go_wp2_with fail
        go_ret3
        exact ⟨by rw [R1.out, R2.out]; rfl, rfl⟩
      | false =>
        have hm2 : 2 * l.count x ≤ j := by
          have := hm
          unfold maj at this
          rw [decide_eq_false_iff_not, HL.out] at this
          omega
        have hr := HD.out.2 hm
        have r1 : mostN l = 0 := by unfold mostN; rw [hr]; rfl
        have r2 : mostB l = false := by unfold mostB; rw [hr]; rfl
        have R1 := Lib.hid r1
        have R2 := Lib.hid r2
        generalize l.count x = c at *
        clear hm hr r1 r2
        go_wp2_with fail
        go_ret3
        exact ⟨by rw [R1.out, R2.out]; rfl, rfl⟩

set_option maxRecDepth 100000 in
theorem fewMost_large (a : Option Addr) (len cap : Nat) (w : World) (hn : 40 < len) :
    Calls Tryz.prog 14 #[.slice a len cap] w fun e w' => e = .returned (.tuple #[.int .i64 0, .bool false, .int .i64 2]) ∧ w' = w := by
  go_enter Tryz.func14, Tryz.ntmps14
  go_wp2
  go_ret3
  exact ⟨rfl, rfl⟩
end Go.Proofs.YtffgoekdjcempaaGreat
