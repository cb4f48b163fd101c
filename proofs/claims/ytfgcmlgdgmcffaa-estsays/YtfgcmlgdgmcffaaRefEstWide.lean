/- The contract of the document's own spread (culref.Spread). -/
import Derived.Test.YtfgcmlgdgmcffaaRefEstHas
namespace Go.Proofs.Ytfgcmlgdgmcffaa
open Go.ChangeShapes Go.WideShapes Go.ChangeAt Go.RowKit
open Est Span

theorem half_step {q P : Int} {j : Nat} {A : Int} (hA : A = q * (((2 ^ j : Nat) : Int) - 1)) (hP : ((2 ^ j : Nat) : Int) = P) : A + q * P = q * (((2 ^ (j + 1) : Nat) : Int) - 1) := by
  rw [Nat.pow_succ, Int.natCast_mul, hA, hP, Int.mul_sub, Int.mul_sub, ← Int.mul_assoc]
  omega

theorem inner_step {q A : Int} {j : Nat} (q0 : 0 ≤ q) (q1 : q ≤ 1000000000000) (hj : j + 1 ≤ 20) (hA : A = q * (((2 ^ j : Nat) : Int) - 1)) :
    ∃ (p : Nat) (Y : Int), wrap64 ((2 : Int) ^ j) = (p : Int) ∧ wrap64 (q * (p : Int)) = Y ∧ 0 ≤ Y ∧ A + Y ≤ 1048576000000000000 ∧ A + Y = q * (((2 ^ (j + 1) : Nat) : Int) - 1) ∧ 1 ≤ p ∧ p ≤ 1048576 := by
  have hp := pow_bd j (by omega)
  have hp2 := pow_bd (j + 1) hj
  have hst := half_step hA rfl
  have e0 : ((2 : Int) ^ j) = ((2 ^ j : Nat) : Int) := by rw [Int.natCast_pow]; rfl
  rw [e0]
  clear e0 hA
  generalize 2 ^ (j + 1) = P2 at *
  generalize 2 ^ j = P at *
  have hb := mul_bd (x := q) (p := (P : Int)) (B := 1000000000000) (C := 1048576) (by omega) q1 (by omega) (by omega) (by omega)
  have hn : 0 ≤ q * (P : Int) := Int.mul_nonneg q0 (by omega)
  have hb2 := mul_bd (x := q) (p := ((P2 : Int) - 1)) (B := 1000000000000) (C := 1048576) (by omega) q1 (by omega) (by omega) (by omega)
  rw [← hst] at hb2
  refine ⟨P, q * (P : Int), wrap_id (by omega) (by omega), wrap_id (by omega) (by omega), hn, by omega, hst, hp.1, hp.2⟩

theorem refS_items {v l : List Int} (h : itemsE v l ≠ 0) : spreadE v l = itemsE v l := if_neg h
theorem refSR_bad {v l : List Int} {E : Int} (h : spreadE v l = E) (hE : E ≠ 0) : spreadR v l = 0 := if_neg (by rw [h]; exact hE)

set_option maxRecDepth 100000 in
set_option maxHeartbeats 2000000 in
theorem refSpread_any (a b : Option Addr) (len cap len2 cap2 : Nat) (v l : List Int) (w : World) (h : Tab w a len cap 1 (v.map iC)) (h2 : Tab w b len2 cap2 1 (l.map iC)) :
    Calls Try.prog 17 #[.slice a len cap, .slice b len2 cap2] w fun e w' => e = .returned (.tuple #[.int .i64 (spreadR v l), .int .i64 (spreadE v l)]) ∧ w = w' := by
  have hl := h.hlen
  have hm := h.hmax
  have hle := h.hle
  rw [List.length_map] at hl
  have hl2 := h2.hlen
  rw [List.length_map] at hl2
  unfold maxLen at hm
  have HC := Lib.hid (refValues_any a b len cap len2 cap2 v l w h h2)
  have HF := Lib.hid (wideHas_any a len cap v w h)
  have HT := Lib.hid h
  have HT2 := Lib.hid h2
  have HL := Lib.hid hl
  have HL2 := Lib.hid hl2
  clear h h2
  by_cases c1 : itemsE v l ≠ 0
  · rw [refSR_bad (refS_items c1) c1, refS_items c1]
    have t : (itemsE v l != 0) = true := by simpa using c1
    clear hl hl2 c1
    generalize itemsE v l = E at *
    go_enter Try.func17, Try.ntmps17
    go_wp2_with fail
    refine HC.out.mono ?_
    rintro e w1 ⟨rfl, rfl⟩
    go_wp2
    go_ret2
    exact ⟨rfl, rfl⟩
  have c1' : itemsE v l = 0 := by omega
  rw [c1'] at HC
  have hS : spreadE v l = if v.all okM = true then (if 1152921504606846976 < wideTo v l v.length then 2 else 0) else 1 := if_pos c1'
  by_cases c2 : v.all okM = true
  · rw [c2] at HF
    rw [if_pos c2] at hS
    obtain ⟨z1, z2, z3⟩ := itemsE_zero c1'
    have h40 : len ≤ 40 := by omega
    obtain rfl : len2 = len := by omega
    have HZ := Lib.hid z3
    have HM : Hid (∀ x ∈ v, -1000000 ≤ x ∧ x ≤ 1000000) := Lib.hid (fun x hx => okM_iff.1 (List.all_eq_true.1 c2 x hx))
    have HZL : Hid (∀ n ∈ l, n ≤ 20) := Lib.hid (fun n hn => (levels_of c1' n hn).2)
    obtain ⟨E, hE⟩ : ∃ E, spreadE v l = E := ⟨_, rfl⟩
    obtain ⟨T, hT⟩ : ∃ T, spreadR v l = T := ⟨_, rfl⟩
    have HTT : Hid (T = if E = 0 then wideTo v l len2 else 0) := Lib.hid (by rw [← hT, ← hE, ← hl]; rfl)
    have hl0 : v.length = len2 := hl
    rw [hE, hl0] at hS
    rw [hE, hT]
    have HE := Lib.hid hS
    clear hS hE hT hl hl2 hl0 c1 c1' c2 z1 z2 z3
    go_enter Try.func17, Try.ntmps17
    go_wp2_with fail
    refine HC.out.mono ?_
    rintro e w1 ⟨rfl, rfl⟩
    clear HC
    go_wp2_with fail
    refine HF.out.mono ?_
    rintro e w1 ⟨rfl, rfl⟩
    clear HF
    go_wp2_with fail
    go_loopg [7, 21] len2 (fun g s i wr => ∃ (k : Nat) (S : Int), k + g = len2 ∧ i = .int .i64 k ∧ s = .int .i64 S ∧ 0 ≤ S ∧ S ≤ 1152921504606846976 ∧ Hid (1152921504606846976 - S = wideTo v l k) ∧ wr = w)
    case atStart => exact ⟨0, 1152921504606846976, by omega, rfl, rfl, by omega, by omega, Lib.hid (by simp [wideTo]), rfl⟩
    case round =>
      obtain ⟨k, S, hk0, rfl, rfl, hS0, hS1, HS, hwr⟩ := hrel
      rw [hwr]
      clear hwr
      have HJ := Lib.hid hk0
      have hk : k ≤ len2 := by omega
      clear hk0
      by_cases hlt : k < len2
      · obtain ⟨x, hx⟩ : ∃ x, v[k]? = some x := ⟨_, List.getElem?_eq_getElem (by rw [HL.out]; exact hlt)⟩
        obtain ⟨n, hn⟩ : ∃ x, l[k]? = some x := ⟨_, List.getElem?_eq_getElem (by rw [HL2.out]; exact hlt)⟩
        obtain ⟨b1, o1, ha, hbs, d0⟩ := HT.out.one (Below.refl _ _) (map_get hx)
        obtain ⟨b2, o2, ha2, hbs2, d2⟩ := HT2.out.one (Below.refl _ _) (map_get hn)
        have hz := HZ.out k x n hx hn
        have hx6 := HM.out x (List.mem_of_getElem? hx)
        have HN := Lib.hid (wideTo_succ hx hn)
        have hwd := wide_bd hx6.1 hx6.2 hz.2.2.2
        have hs := sq_bd hx6.1 hx6.2
        obtain ⟨m, rfl⟩ := Int.eq_ofNat_of_zero_le hz.2.2.1
        have hm20 : m ≤ 20 := by have := hz.2.2.2; omega
        have HLE := Lib.hid (wideTo_le HM.out HZL.out (show k + 1 ≤ len2 by omega))
        have HW : Hid (wide x (m : Int) = x * x * (((2 ^ m : Nat) : Int) - 1)) := Lib.hid (by unfold wide; rw [Int.toNat_natCast])
        obtain ⟨q, hq⟩ : ∃ q, x * x = q := ⟨_, rfl⟩
        rw [hq] at hs HW
        have e1 : wrap64 (x * x) = q := by rw [hq]; exact wrap_id (by omega) (by omega)
        have q0 := hs.1
        have q1 := hs.2
        have w0 := hwd.1
        have w9 := hwd.2
        subst ha ha2
        clear hx hn hz hx6 hwd hs hq
        go_wp2_with fail
        go_loopg [7, 30] m (fun g s i wr => ∃ (j : Nat) (A : Int), j + g = m ∧ i = .int .i64 j ∧ s = .int .i64 (S - A) ∧ 0 ≤ A ∧ A ≤ 1048576000000000000 ∧ Hid (A = q * (((2 ^ j : Nat) : Int) - 1)) ∧ wr = w)
        case atStart => exact ⟨0, 0, by omega, rfl, by rw [Int.sub_zero], by omega, by omega, Lib.hid (by simp), rfl⟩
        case round =>
          obtain ⟨j, A, hj0, rfl, rfl, hA0, hA1, HA, hwr⟩ := hrel
          rw [hwr]
          clear hwr
          have HJ2 := Lib.hid hj0
          have hj : j ≤ m := by omega
          clear hj0
          by_cases hlt2 : j < m
          · obtain ⟨p, Y, e2, e3, y0, hA3, hST, p0, p1⟩ := inner_step q0 q1 (show j + 1 ≤ 20 by omega) HA.out
            have HST2 := Lib.hid hST
            clear hST
            go_wp2_with fail
            go_roundg (m - (j + 1))
            case measure => have := HJ2.out; omega
            case rel => exact ⟨j + 1, A + Y, by omega, by go_num, by first | go_num | (congr 1; omega), by omega, hA3, HST2, rfl⟩
          · obtain rfl : j = m := by omega
            have hAW : A = wide x (j : Int) := by rw [HW.out, HA.out]
            rw [← hAW] at HN
            have hN := HN.out
            have hS2 := HS.out
            by_cases g1 : S - A < 0
            · obtain rfl : E = 2 := by rw [HE.out, if_pos (by have := HLE.out; omega)]
              obtain rfl : T = 0 := HTT.out
              clear hN hS2 hAW
              go_wp2
              go_ret2
              exact ⟨rfl, rfl⟩
            · have g2 : 0 ≤ S - A := by omega
              have HS2 : Hid (1152921504606846976 - (S - A) = wideTo v l (k + 1)) := Lib.hid (by omega)
              clear hN hS2 hAW g1
              go_wp2_with fail
              go_roundg (len2 - (k + 1))
              case measure => have := HJ.out; omega
              case rel => exact ⟨k + 1, S - A, by omega, by go_num, rfl, g2, by omega, HS2, rfl⟩
      · obtain rfl : k = len2 := by omega
        obtain rfl : E = 0 := by rw [HE.out, if_neg (by have := HS.out; omega)]
        obtain rfl : T = 1152921504606846976 - S := by rw [HTT.out, if_pos rfl, HS.out]
        go_wp2
        go_ret2
        exact ⟨rfl, rfl⟩
  · have c2' : v.all okM = false := by simpa using c2
    rw [c2'] at HF
    rw [if_neg c2] at hS
    rw [refSR_bad hS (by decide), hS]
    clear hS c1 c1' c2 c2' hl hl2
    go_enter Try.func17, Try.ntmps17
    go_wp2_with fail
    refine HC.out.mono ?_
    rintro e w1 ⟨rfl, rfl⟩
    clear HC
    go_wp2_with fail
    refine HF.out.mono ?_
    rintro e w1 ⟨rfl, rfl⟩
    clear HF
    go_wp2
    go_ret2
    exact ⟨rfl, rfl⟩
end Go.Proofs.Ytfgcmlgdgmcffaa
