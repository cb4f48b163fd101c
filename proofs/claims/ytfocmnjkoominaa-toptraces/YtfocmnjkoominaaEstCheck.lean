/- The contracts of the program's est.within and est.check. -/
import Derived.Test.YtfocmnjkoominaaEstMath
import Derived.Test.YtfocmnjkoominaaShapes
import Derived.WalkKit
import Derived.Deep.LoopGhost
namespace Go.Proofs.Ytfocmnjkoominaa
open Go.ChangeShapes Go.WideShapes Go.ChangeAt Go.RowKit
open Est

set_option maxHeartbeats 400000 in
theorem estWithin_yes (x b : Int) (w : World) (hb : 0 ≤ b ∧ b ≤ 1000000000000) (h0 : -b ≤ x) (h1 : x ≤ b) :
    Calls Try.prog 48 #[.int .i64 x, .int .i64 b] w fun e w' => e = .returned (.bool true) ∧ w = w' := by
  obtain ⟨b0, b1⟩ := hb
  go_enter Try.func48, Try.ntmps48
  go_wp2
  go_ret
  exact ⟨rfl, rfl⟩
set_option maxHeartbeats 400000 in
theorem estWithin_low (x b : Int) (w : World) (hb : 0 ≤ b ∧ b ≤ 1000000000000) (h0 : x < -b) :
    Calls Try.prog 48 #[.int .i64 x, .int .i64 b] w fun e w' => e = .returned (.bool false) ∧ w = w' := by
  obtain ⟨b0, b1⟩ := hb
  go_enter Try.func48, Try.ntmps48
  go_wp2
  go_ret
  exact ⟨rfl, rfl⟩
set_option maxHeartbeats 400000 in
theorem estWithin_high (x b : Int) (w : World) (hb : 0 ≤ b ∧ b ≤ 1000000000000) (h0 : b < x) :
    Calls Try.prog 48 #[.int .i64 x, .int .i64 b] w fun e w' => e = .returned (.bool false) ∧ w = w' := by
  obtain ⟨b0, b1⟩ := hb
  have h1 : -b ≤ x := by omega
  go_enter Try.func48, Try.ntmps48
  go_wp2
  go_ret
  exact ⟨ret_bool (by simp; omega), rfl⟩

set_option maxRecDepth 100000 in
set_option maxHeartbeats 1000000 in
theorem estCheck_any (a b : Option Addr) (len cap len2 cap2 : Nat) (v l : List Int) (w : World) (h : Tab w a len cap 1 (v.map iC)) (h2 : Tab w b len2 cap2 1 (l.map iC)) :
    Calls Try.prog 47 #[.slice a len cap, .slice b len2 cap2] w fun e w' => e = .returned (.int .i64 (itemsE v l)) ∧ w = w' := by
  have hl := h.hlen
  have hm := h.hmax
  have hle := h.hle
  rw [List.length_map] at hl
  have hl2 := h2.hlen
  have hm2 := h2.hmax
  have hle2 := h2.hle
  rw [List.length_map] at hl2
  unfold maxLen at hm hm2
  have HT := Lib.hid h
  have HT2 := Lib.hid h2
  have HL := Lib.hid hl
  have HL2 := Lib.hid hl2
  clear h h2
  by_cases c1 : 40 < len
  · rw [show itemsE v l = 2 from if_pos (by omega)]
    clear hl hl2
    go_enter Try.func47, Try.ntmps47
    go_wp2
    go_ret
    exact ⟨rfl, rfl⟩
  have c1' : len ≤ 40 := by omega
  by_cases c2 : 40 < len2
  · rw [show itemsE v l = 2 from if_pos (by omega)]
    clear hl hl2 c1
    go_enter Try.func47, Try.ntmps47
    go_wp2
    go_ret
    exact ⟨rfl, rfl⟩
  have c2' : len2 ≤ 40 := by omega
  by_cases c3 : len ≠ len2
  · rw [show itemsE v l = 7 from by unfold itemsE; rw [if_neg (by omega), if_pos (by omega)]]
    have t : ((len : Int) != (len2 : Int)) = true := by simp; omega
    clear hl hl2 c1 c2 c3
    go_enter Try.func47, Try.ntmps47
    go_wp2
    go_ret
    exact ⟨rfl, rfl⟩
  obtain rfl : len2 = len := by omega
  have HE : Hid (itemsE v l = if ((v.zip l).drop 0).all okV = true then 0 else 1) := Lib.hid (by unfold itemsE; rw [if_neg (by omega), if_neg (by omega)]; rfl)
  clear hl hl2 c1 c2 c3 c2' hm2
  obtain ⟨B, hB⟩ : ∃ B, ((v.zip l).drop 0).all okV = B := ⟨_, rfl⟩
  rw [hB] at HE
  obtain ⟨E, hE⟩ : ∃ E, itemsE v l = E := ⟨_, rfl⟩
  rw [hE] at HE ⊢
  have HB := Lib.hid hB
  have t : ((len2 : Int) != (len2 : Int)) = false := by simp
  clear hB hE
  go_enter Try.func47, Try.ntmps47
  go_wp2_with fail
  clear t
  go_loopg [22] len2 (fun g i wr => ∃ k : Nat, k + g = len2 ∧ i = .int .i64 k ∧ Hid (((v.zip l).drop k).all okV = B) ∧ wr = w)
  case atStart => exact ⟨0, by omega, rfl, HB, rfl⟩
  case round =>
    clear HB
    obtain ⟨k, hk0, rfl, HB, rfl⟩ := hrel
    have HJ := Lib.hid hk0
    have hk : k ≤ len2 := by omega
    clear hk0
    by_cases hlt : k < len2
    · obtain ⟨x, hx⟩ : ∃ x, v[k]? = some x := ⟨_, List.getElem?_eq_getElem (by rw [HL.out]; exact hlt)⟩
      obtain ⟨n, hn⟩ : ∃ x, l[k]? = some x := ⟨_, List.getElem?_eq_getElem (by rw [HL2.out]; exact hlt)⟩
      obtain ⟨b1, o1, ha, hbs, d0⟩ := HT.out.one (Below.refl _ _) (map_get hx)
      obtain ⟨b2, o2, ha2, hbs2, d2⟩ := HT2.out.one (Below.refl _ _) (map_get hn)
      have HZ := Lib.hid (all_at (p := okV) (zip_at hx hn))
      rw [HB.out] at HZ
      subst ha ha2
      clear hx hn
      by_cases g1 : x < -1000000000000
      · rw [okV_no (p := (x, n)) (by simp only; omega)] at HZ
        obtain rfl : B = false := HZ.out.trans (by simp)
        obtain rfl : E = 1 := HE.out
        go_wp2_with fail
        refine (estWithin_low x 1000000000000 _ (by omega) g1).mono ?_
        rintro e w2 ⟨rfl, rfl⟩
        go_wp2
        go_ret
        exact ⟨rfl, rfl⟩
      by_cases g2 : 1000000000000 < x
      · rw [okV_no (p := (x, n)) (by simp only; omega)] at HZ
        obtain rfl : B = false := HZ.out.trans (by simp)
        obtain rfl : E = 1 := HE.out
        clear g1
        go_wp2_with fail
        refine (estWithin_high x 1000000000000 _ (by omega) g2).mono ?_
        rintro e w2 ⟨rfl, rfl⟩
        go_wp2
        go_ret
        exact ⟨rfl, rfl⟩
      have G := Lib.hid (And.intro (show -1000000000000 ≤ x by omega) (show x ≤ 1000000000000 by omega))
      clear g1 g2
      by_cases g3 : n < 0
      · rw [okV_no (p := (x, n)) (by simp only; omega)] at HZ
        obtain rfl : B = false := HZ.out.trans (by simp)
        obtain rfl : E = 1 := HE.out
        go_wp2_with fail
        refine (estWithin_yes x 1000000000000 _ (by omega) G.out.1 G.out.2).mono ?_
        rintro e w2 ⟨rfl, rfl⟩
        go_wp2
        go_ret
        exact ⟨rfl, rfl⟩
      have g3' : 0 ≤ n := by omega
      clear g3
      by_cases g4 : 20 < n
      · rw [okV_no (p := (x, n)) (by simp only; omega)] at HZ
        obtain rfl : B = false := HZ.out.trans (by simp)
        obtain rfl : E = 1 := HE.out
        go_wp2_with fail
        refine (estWithin_yes x 1000000000000 _ (by omega) G.out.1 G.out.2).mono ?_
        rintro e w2 ⟨rfl, rfl⟩
        go_wp2
        go_ret
        exact ⟨rfl, rfl⟩
      have g4' : n ≤ 20 := by omega
      clear g4
      rw [okV_iff.2 (show -1000000000000 ≤ (x, n).1 ∧ (x, n).1 ≤ 1000000000000 ∧ 0 ≤ (x, n).2 ∧ (x, n).2 ≤ 20 from ⟨G.out.1, G.out.2, g3', g4'⟩), Bool.true_and] at HZ
      go_wp2_with fail
      refine (estWithin_yes x 1000000000000 _ (by omega) G.out.1 G.out.2).mono ?_
      rintro e w2 ⟨rfl, rfl⟩
      go_wp2_with fail
      go_roundg (len2 - (k + 1))
      case measure => have := HJ.out; omega
      case rel => exact ⟨k + 1, by omega, by go_num, Lib.hid HZ.out.symm, rfl⟩
    · obtain rfl : k = len2 := by omega
      obtain rfl : B = true := by
        rw [← HB.out, List.drop_of_length_le (by rw [List.length_zip, HL.out, HL2.out]; omega)]; rfl
      obtain rfl : E = 0 := HE.out
      go_wp2
      go_ret
      exact ⟨rfl, rfl⟩
end Go.Proofs.Ytfocmnjkoominaa
