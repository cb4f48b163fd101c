/- The contracts of the document's own sketches (culref.Bottom, Guess). -/
import Derived.Test.YtfocmnjkoominaaBottomMuch
import Derived.Test.YtfocmnjkoominaaRefDraw
import Derived.BigQuiet
namespace Go.Proofs.Ytfocmnjkoominaa
open Go.ChangeShapes Go.WideShapes Go.ChangeAt Go.RowKit
open Least

theorem lastAt_bd {l : List Int} {k : Nat} (hk : k ≤ l.length) : lastAt l k = -1 ∨ ∃ y ∈ l, lastAt l k = y := by
  cases k with
  | zero => exact Or.inl rfl
  | succ k =>
    obtain ⟨y, hy⟩ : ∃ y, l[k]? = some y := ⟨_, List.getElem?_eq_getElem (by omega)⟩
    exact Or.inr ⟨y, List.mem_of_getElem? hy, lastAt_succ hy⟩

set_option maxRecDepth 100000 in
set_option maxHeartbeats 2000000 in
theorem refBottom_any (K : Int) (a : Option Addr) (len cap : Nat) (l : List Int) (w : World) (h : Tab w a len cap 1 (l.map iC)) :
    Calls Try.prog 11 #[bottomV K a len cap] w fun e w' => e = .returned (.int .i64 (bottomE K l)) ∧ Below w.heap.size w w' := by
  unfold bottomV
  have hb : Below w.heap.size w (w.alloc (.cells #[.int .i64 K, .slice a len cap] 24)) := (Below.refl _ _).alloc (Nat.le_refl _) _
  have HB := Lib.hid hb
  have hl := h.hlen
  rw [List.length_map] at hl
  have hm := h.hmax
  unfold maxLen at hm
  have hle := h.hle
  have HW := Lib.hid (fun W => within_ref K 1 40 W)
  clear hb
  by_cases h1 : K < 1 ∨ 40 < K
  · have E : bottomE K l = 1 := if_pos h1
    rw [E]
    rw [show (decide (1 ≤ K) && decide (K ≤ 40)) = false from by rw [← Bool.not_eq_true, Bool.and_eq_true, decide_eq_true_iff, decide_eq_true_iff]; omega] at HW
    clear E h hl h1
    go_enter Try.func11, Try.ntmps11
    go_wp2_with fail
    refine (HW.out _).mono ?_
    rintro e w1 ⟨rfl, hw⟩
    rw [← hw]
    clear hw
    go_wp2
    go_ret
    exact ⟨rfl, HB.out⟩
  have h1' : 1 ≤ K := by omega
  have h2' : K ≤ 40 := by omega
  rw [show (decide (1 ≤ K) && decide (K ≤ 40)) = true from by rw [Bool.and_eq_true, decide_eq_true_iff, decide_eq_true_iff]; omega] at HW
  by_cases h3 : K < (len : Int)
  · have E : bottomE K l = 2 := (if_neg (by omega)).trans (if_pos (by omega))
    rw [E]
    clear E h hl h1
    go_enter Try.func11, Try.ntmps11
    go_wp2_with fail
    refine (HW.out _).mono ?_
    rintro e w1 ⟨rfl, hw⟩
    rw [← hw]
    clear hw
    go_wp2
    go_ret
    exact ⟨rfl, HB.out⟩
  have h3' : (len : Int) ≤ K := by omega
  obtain ⟨E, hE⟩ : ∃ E, bottomE K l = E := ⟨_, rfl⟩
  have HE0 : Hid (scanE (lastAt l 0) (l.drop 0) = E) := Lib.hid (by rw [← hE]; exact ((if_neg (by omega)).trans (if_neg (by omega))).symm)
  rw [hE]
  have HT := Lib.hid h
  have HL := Lib.hid hl
  clear h hl hE h1 h3
  go_enter Try.func11, Try.ntmps11
  go_wp2_with fail
  refine (HW.out _).mono ?_
  rintro e w1 ⟨rfl, hw⟩
  rw [← hw]
  clear hw HW
  go_wp2_with fail
  obtain ⟨wl, hwl⟩ : ∃ wl, w.alloc (.cells #[.int .i64 K, .slice a len cap] 24) = wl := ⟨_, rfl⟩
  rw [hwl] at HB ⊢
  clear hwl
  go_loopg [3, 19] len (fun g s i wr => ∃ k : Nat, k + g = len ∧ i = .int .i64 k ∧ s = .int .i64 (lastAt l k) ∧ Hid (scanE (lastAt l k) (l.drop k) = E) ∧ wr = wl)
  case atStart => exact ⟨0, by omega, rfl, rfl, HE0, rfl⟩
  case round =>
    clear HE0
    obtain ⟨k, hk0, rfl, rfl, HE, rfl⟩ := hrel
    have HJ := Lib.hid hk0
    have hk : k ≤ len := by omega
    clear hk0
    by_cases hlt : k < len
    · obtain ⟨y, hy⟩ : ∃ x, l[k]? = some x := ⟨_, List.getElem?_eq_getElem (by rw [HL.out]; exact hlt)⟩
      obtain ⟨b1, o1, ha, hbs, d0⟩ := HT.out.one HB.out (map_get hy)
      have hA := scan_at (last := lastAt l k) hy
      rw [HE.out] at hA
      have HLS := Lib.hid (lastAt_succ hy)
      have HA := Lib.hid hA
      clear hA
      generalize lastAt l k = x at *
      by_cases g1 : y < 0 ∨ 72057594037927936 ≤ y
      · obtain rfl : E = 1 := by rw [HA.out, if_pos g1]
        have CI := Lib.hid (fun W => refDraw_any y W false (by symm; rw [← Bool.not_eq_true, Bool.and_eq_true, decide_eq_true_iff, decide_eq_true_iff]; omega))
        subst ha
        clear g1 hy HA
        go_wp2_with fail
        refine (CI.out _).mono ?_
        rintro e w2 ⟨rfl, hw⟩
        rw [← hw]
        clear hw
        go_wp2
        go_ret
        exact ⟨rfl, HB.out⟩
      have CI := Lib.hid (fun W => refDraw_any y W true (by symm; rw [Bool.and_eq_true, decide_eq_true_iff, decide_eq_true_iff]; omega))
      rw [if_neg g1] at HA
      subst ha
      clear g1 hy
      by_cases g3 : y ≤ x
      · obtain rfl : E = 3 := by rw [HA.out, if_pos g3]
        clear HA
        go_wp2_with fail
        refine (CI.out _).mono ?_
        rintro e w2 ⟨rfl, hw⟩
        rw [← hw]
        clear hw
        go_wp2
        go_ret
        exact ⟨rfl, HB.out⟩
      · rw [if_neg g3] at HA
        have g3' : x < y := by omega
        clear g3
        go_wp2_with fail
        refine (CI.out _).mono ?_
        rintro e w2 ⟨rfl, hw⟩
        rw [← hw]
        clear hw
        go_wp2_with fail
        go_roundg (len - (k + 1))
        case measure => have := HJ.out; omega
        case rel => exact ⟨k + 1, by omega, by go_num, by rw [HLS.out], Lib.hid (by rw [HLS.out, ← HA.out]), rfl⟩
    · obtain rfl : k = len := by omega
      obtain rfl : E = 0 := by rw [← HE.out, List.drop_of_length_le (by rw [HL.out]; omega)]; rfl
      go_wp2
      go_ret
      exact ⟨rfl, HB.out⟩

namespace Least
theorem guess_eq {m g : Int} (m0 : 0 ≤ m) (m1 : m ≤ 39) (g0 : 0 < g) : ∃ Q R U : Int, Int.tdiv 72057594037927936 g = Q ∧ Int.tmod 72057594037927936 g = R ∧ Int.tdiv (m * R) g = U ∧ Int.tdiv (m * 72057594037927936) g = m * Q + U ∧ 0 ≤ Q ∧ Q ≤ 72057594037927936 ∧ 0 ≤ R ∧ R ≤ 72057594037927936 ∧ 0 ≤ U ∧ 0 ≤ m * Q ∧ m * Q ≤ 2810246167479189504 ∧ 0 ≤ m * R ∧ m * R ≤ 2810246167479189504 ∧ m * Q + U ≤ 2810246167479189504 := by
  have e := Int.emod_add_mul_ediv 72057594037927936 g
  have hq0 : 0 ≤ (72057594037927936 : Int) / g := Int.ediv_nonneg (by omega) (by omega)
  have hq1 : (72057594037927936 : Int) / g ≤ 72057594037927936 := Int.ediv_le_self g (by omega)
  have hr0 := Int.emod_nonneg (72057594037927936 : Int) (show g ≠ 0 by omega)
  have hr1 : (72057594037927936 : Int) % g ≤ 72057594037927936 := by
    have h1 : 0 ≤ g * (72057594037927936 / g) := Int.mul_nonneg (by omega) hq0
    omega
  have hm : 0 ≤ m * 72057594037927936 := by omega
  refine ⟨_, _, _, Int.tdiv_eq_ediv_of_nonneg (by omega), Int.tmod_eq_emod_of_nonneg (by omega), rfl, ?_, hq0, hq1, hr0, hr1, ?_⟩
  · rw [Int.tdiv_eq_ediv_of_nonneg hm, Int.tdiv_eq_ediv_of_nonneg (Int.mul_nonneg m0 hr0)]
    generalize 72057594037927936 / g = q at *
    generalize 72057594037927936 % g = r at *
    rw [← e, Int.mul_add, show m * (g * q) = g * (m * q) by rw [Int.mul_left_comm], Int.add_mul_ediv_left _ _ (by omega), Int.add_comm]
  · have h1 : m * (72057594037927936 / g) ≤ 39 * (72057594037927936 / g) := Int.mul_le_mul_of_nonneg_right m1 hq0
    have h2 : m * (72057594037927936 % g) ≤ 39 * (72057594037927936 % g) := Int.mul_le_mul_of_nonneg_right m1 hr0
    have h3 := Int.mul_nonneg m0 hq0
    have h4 := Int.mul_nonneg m0 hr0
    have h5 : Int.tdiv (m * (72057594037927936 % g)) g = (m * (72057594037927936 % g)) / g := Int.tdiv_eq_ediv_of_nonneg h4
    have h6 : 0 ≤ (m * (72057594037927936 % g)) / g := Int.ediv_nonneg h4 (by omega)
    have h7 : m * 72057594037927936 / g ≤ m * 72057594037927936 := Int.ediv_le_self g hm
    have h8 : m * (72057594037927936 / g) + (m * (72057594037927936 % g)) / g = m * 72057594037927936 / g := by
      generalize 72057594037927936 / g = q at *
      generalize 72057594037927936 % g = r at *
      rw [← e, Int.mul_add, show m * (g * q) = g * (m * q) by rw [Int.mul_left_comm], Int.add_mul_ediv_left _ _ (by omega), Int.add_comm]
    rw [h5]
    refine ⟨h6, h3, by omega, h4, by omega, by omega⟩
end Least

set_option maxRecDepth 100000 in
set_option maxHeartbeats 2000000 in
theorem guess_ok (k : Nat) (a : Option Addr) (len cap : Nat) (l : List Int) (w : World) (h : Tab w a len cap 1 (l.map iC)) (hE : bottomE k l = 0) :
    Calls Try.prog 14 #[bottomV k a len cap] w fun e w' => e = .returned (.tuple #[.int .i64 (manyR k l), .int .i64 (manyE k l)]) ∧ Below w.heap.size w w' := by
  obtain ⟨k1, k2, hlk, hok⟩ := bottomE_zero hE
  have hl := h.hlen
  rw [List.length_map] at hl
  have hl0 : l.length = len := hl
  have hbx : Below w.heap.size w (w.alloc (.cells #[.int .i64 k, .slice a len cap] 24)) := (Below.refl _ _).alloc (Nat.le_refl _) _
  have hcx := (MapKept.heap_alloc w (.cells #[.int .i64 k, .slice a len cap] 24)).1
  have HT := Lib.hid h
  have HBX := Lib.hid hbx
  have hk1 : 1 ≤ k := by omega
  have hk2 : k ≤ 40 := by omega
  have hlen : len ≤ k := by omega
  clear hE h hl k1 k2 hlk
  unfold bottomV
  by_cases c1 : len < k
  · rw [(many_few (k := k) (L := l) (by omega)).1, (many_few (k := k) (L := l) (by omega)).2, hl0]
    clear hl0 hok hbx hcx
    go_enter Try.func14, Try.ntmps14
    go_wp2
    go_ret2
    exact ⟨rfl, HBX.out⟩
  obtain rfl : len = k := by omega
  obtain ⟨g, hg⟩ : ∃ g, l[len - 1]? = some g := ⟨_, List.getElem?_eq_getElem (by omega)⟩
  have hgb := hok.2 g (List.mem_of_getElem? hg)
  obtain ⟨e1, e2⟩ := many_full (k := len) (L := l) (by omega) hg
  obtain ⟨b, o, ha, _, d0⟩ := HT.out.one HBX.out (map_get hg)
  have hi1 : ((len : Int) - 1).toNat = len - 1 := by omega
  subst ha
  by_cases c2 : g = 0
  · subst c2
    rw [e1, e2, many_zero, if_pos rfl]
    clear e1 e2 hg hgb hl0 hok c1 hbx hcx
    go_enter Try.func14, Try.ntmps14
    go_wp2
    go_ret2
    exact ⟨rfl, HBX.out⟩
  · have g0 : 0 < g := by omega
    have g1 : g < 72057594037927936 := hgb.2
    obtain ⟨Q, R, U, q1, q2, q3, q4, Q0, Q1, R0, R1, U0, m0, m1, m2, m3, m4⟩ := guess_eq (m := (len : Int) - 1) (g := g) (by omega) (by omega) g0
    have t9 : (g == 0) = false := by simpa using c2
    rw [e1, e2, if_neg c2, q4]
    clear e1 e2 hg hgb hl0 hok c1 c2 hbx hcx q4
    go_enter Try.func14, Try.ntmps14
    go_wp2_with fail
    go_quiet (fail)
    go_wp2_with fail
    go_quiet (fail)
    go_wp2
    go_ret2
    exact ⟨rfl, below_drewN (below_drewN HBX.out _) _⟩
end Go.Proofs.Ytfocmnjkoominaa
