/- The contract of the document's own estimate (culref.Sum). -/
import Derived.Test.YtfgcmlgdgmcffaaRefEst
namespace Go.Proofs.Ytfgcmlgdgmcffaa
open Go.ChangeShapes Go.WideShapes Go.ChangeAt Go.RowKit
open Est Span

theorem dbl {x V : Int} {j : Nat} (h : V = x * ((2 ^ j : Nat) : Int)) : V + V = x * ((2 ^ (j + 1) : Nat) : Int) := by
  rw [Nat.pow_succ, Int.natCast_mul, ← Int.mul_assoc, ← h]; omega
theorem refE_items {v l d : List Int} (h : itemsE v l ≠ 0) : sumE v l d = itemsE v l := if_neg h
theorem refR_bad {v l d : List Int} {E : Int} (h : sumE v l d = E) (hE : E ≠ 0) : sumR v l d = 0 := if_neg (by rw [h]; exact hE)

set_option maxRecDepth 100000 in
set_option maxHeartbeats 2000000 in
theorem refSum_any (a b c : Option Addr) (len cap len2 cap2 len3 cap3 : Nat) (v l d : List Int) (w : World) (h : Tab w a len cap 1 (v.map iC)) (h2 : Tab w b len2 cap2 1 (l.map iC)) (h3 : Tab w c len3 cap3 1 (d.map iC)) :
    Calls Try.prog 16 #[.slice a len cap, .slice b len2 cap2, .slice c len3 cap3] w fun e w' => e = .returned (.tuple #[.int .i64 (sumR v l d), .int .i64 (sumE v l d)]) ∧ w = w' := by
  have hl := h.hlen
  have hm := h.hmax
  have hle := h.hle
  rw [List.length_map] at hl
  have hl2 := h2.hlen
  rw [List.length_map] at hl2
  have hl3 := h3.hlen
  have hm3 := h3.hmax
  have hle3 := h3.hle
  rw [List.length_map] at hl3
  unfold maxLen at hm hm3
  have HC := Lib.hid (refValues_any a b len cap len2 cap2 v l w h h2)
  have HT := Lib.hid h
  have HT2 := Lib.hid h2
  have HT3 := Lib.hid h3
  have HL := Lib.hid hl
  have HL2 := Lib.hid hl2
  have HL3 := Lib.hid hl3
  clear h h2 h3
  by_cases c1 : itemsE v l ≠ 0
  · rw [refR_bad (refE_items c1) c1, refE_items c1]
    have t : (itemsE v l != 0) = true := by simpa using c1
    clear hl hl2 hl3 c1
    generalize itemsE v l = E at *
    go_enter Try.func16, Try.ntmps16
    go_wp2_with fail
    refine HC.out.mono ?_
    rintro e w1 ⟨rfl, rfl⟩
    go_wp2
    go_ret2
    exact ⟨rfl, rfl⟩
  have c1' : itemsE v l = 0 := by omega
  rw [c1'] at HC
  have hS : sumE v l d = if d.length ≠ v.length then 7 else if d.all okD = true then 0 else 1 := if_pos c1'
  by_cases c2 : len3 ≠ len
  · rw [if_pos (by omega)] at hS
    rw [refR_bad hS (by decide), hS]
    have t : ((len3 : Int) != (len : Int)) = true := by simp; omega
    clear hl hl2 hl3 c1 c1' c2 hS
    go_enter Try.func16, Try.ntmps16
    go_wp2_with fail
    refine HC.out.mono ?_
    rintro e w1 ⟨rfl, rfl⟩
    go_wp2
    go_ret2
    exact ⟨rfl, rfl⟩
  obtain rfl : len3 = len := by omega
  rw [if_neg (by omega)] at hS
  obtain ⟨z1, z2, z3⟩ := itemsE_zero c1'
  have h40 : len3 ≤ 40 := by omega
  obtain rfl : len2 = len3 := by omega
  have HZ := Lib.hid z3
  obtain ⟨B, hB⟩ : ∃ B, (d.drop 0).all okD = B := ⟨_, rfl⟩
  rw [show d.all okD = B from hB] at hS
  obtain ⟨E, hE⟩ : ∃ E, sumE v l d = E := ⟨_, rfl⟩
  obtain ⟨T, hT⟩ : ∃ T, sumR v l d = T := ⟨_, rfl⟩
  have HTT : Hid (T = if E = 0 then wrap64 (estTo v l d len2) else 0) := Lib.hid (by rw [← hT, ← hE, ← hl]; rfl)
  rw [hE] at hS ⊢
  rw [hT]
  have HE := Lib.hid hS
  have HB := Lib.hid hB
  have t : ((len2 : Int) != (len2 : Int)) = false := by simp
  clear hS hB hE hT hl hl2 hl3 c1 c1' c2 z1 z2 z3 hm3 hle3
  go_enter Try.func16, Try.ntmps16
  go_wp2_with fail
  refine HC.out.mono ?_
  rintro e w1 ⟨rfl, rfl⟩
  clear HC
  go_wp2_with fail
  clear t
  go_loopg [9, 26] len2 (fun g s i wr => ∃ (k : Nat) (S : Int), k + g = len2 ∧ i = .int .i64 k ∧ s = .int .i64 S ∧ Hid (S = wrap64 (estTo v l d k)) ∧ Hid ((d.drop k).all okD = B) ∧ wr = w)
  case atStart => exact ⟨0, 0, by omega, rfl, rfl, Lib.hid (by rw [estTo]; exact (wrap_id (by omega) (by omega)).symm), HB, rfl⟩
  case round =>
    clear HB
    obtain ⟨k, S, hk0, rfl, rfl, HS, HB, hwr⟩ := hrel
    rw [hwr]
    clear hwr
    have HJ := Lib.hid hk0
    have hk : k ≤ len2 := by omega
    clear hk0
    by_cases hlt : k < len2
    · obtain ⟨x, hx⟩ : ∃ x, v[k]? = some x := ⟨_, List.getElem?_eq_getElem (by rw [HL.out]; exact hlt)⟩
      obtain ⟨n, hn⟩ : ∃ x, l[k]? = some x := ⟨_, List.getElem?_eq_getElem (by rw [HL2.out]; exact hlt)⟩
      obtain ⟨r, hr⟩ : ∃ x, d[k]? = some x := ⟨_, List.getElem?_eq_getElem (by rw [HL3.out]; exact hlt)⟩
      obtain ⟨b1, o1, ha, hbs, d0⟩ := HT.out.one (Below.refl _ _) (map_get hx)
      obtain ⟨b2, o2, ha2, hbs2, d2⟩ := HT2.out.one (Below.refl _ _) (map_get hn)
      obtain ⟨b3, o3, ha3, hbs3, d3⟩ := HT3.out.one (Below.refl _ _) (map_get hr)
      have hz := HZ.out k x n hx hn
      have HX := Lib.hid hz
      have HN := Lib.hid (estTo_succ hx hn hr)
      have HA := Lib.hid (all_at (p := okD) hr)
      rw [HB.out] at HA
      subst ha ha2 ha3
      clear hx hn hr hz
      by_cases g1 : r < 0 ∨ 72057594037927936 ≤ r
      · rw [okD_no g1] at HA
        obtain rfl : B = false := HA.out.trans (by simp)
        obtain rfl : E = 1 := HE.out
        obtain rfl : T = 0 := HTT.out
        have CD := Lib.hid (drawR_no r w g1)
        clear g1 HN HS
        go_wp2_with fail
        refine CD.out.mono ?_
        rintro e w2 ⟨rfl, rfl⟩
        go_wp2
        go_ret2
        exact ⟨rfl, rfl⟩
      have g2 : 0 ≤ r := by omega
      have g3 : r < 72057594037927936 := by omega
      rw [okD_iff.2 ⟨g2, g3⟩, Bool.true_and] at HA
      have CD := Lib.hid (drawR_yes r w g2 g3)
      obtain ⟨m, rfl⟩ := Int.eq_ofNat_of_zero_le HX.out.2.2.1
      have hm20 : m ≤ 20 := by have := HX.out.2.2.2; omega
      have CL : Hid (∀ W : World, Calls Try.prog 49 #[.int .i64 (m : Nat)] W fun e w' => e = .returned (.int .i64 (thr (m : Int))) ∧ W = w') := Lib.hid (fun W => refLevel_any m hm20 W)
      clear g1
      by_cases g4 : thr (m : Int) ≤ r
      · rw [term_yes g4, Int.toNat_natCast] at HN
        have HQ : ∀ X, X = x * ((2 ^ m : Nat) : Int) → wrap64 (S + X) = wrap64 (estTo v l d (k + 1)) := fun X hX => by rw [HN.out, HS.out, ← hX, wrap_add]
        have HQQ := Lib.hid HQ
        have hx0 := HX.out.1
        have hx1 := HX.out.2.1
        clear HN HS HQ HX
        generalize thr (m : Int) = th at *
        go_wp2_with fail
        refine CD.out.mono ?_
        rintro e w2 ⟨rfl, rfl⟩
        go_wp2_with fail
        refine (CL.out _).mono ?_
        rintro e w3 ⟨rfl, rfl⟩
        go_wp2_with fail
        go_loopg [12, 49] m (fun g vv i wr => ∃ (j : Nat) (V : Int), j + g = m ∧ i = .int .i64 j ∧ vv = .int .i64 V ∧ -1048576000000000000 ≤ V ∧ V ≤ 1048576000000000000 ∧ Hid (V = x * ((2 ^ j : Nat) : Int)) ∧ wr = w)
        case atStart => exact ⟨0, x, by omega, rfl, rfl, by omega, by omega, Lib.hid (by simp), rfl⟩
        case round =>
          obtain ⟨j, V, hj0, rfl, rfl, hV0, hV1, HV, hwr⟩ := hrel
          rw [hwr]
          clear hwr
          have HJ2 := Lib.hid hj0
          have hj : j ≤ m := by omega
          clear hj0
          by_cases hlt2 : j < m
          · have hb := mul_bd (x := x) (p := ((2 ^ (j + 1) : Nat) : Int)) (B := 1000000000000) (C := 1048576) hx0 hx1 (Int.natCast_nonneg _) (Int.ofNat_le.2 (pow_bd (j + 1) (by omega)).2) (by omega)
            rw [← dbl HV.out] at hb
            have HV2 := Lib.hid (dbl HV.out)
            have v0 := hb.1
            have v1 := hb.2
            clear hb
            go_wp2_with fail
            go_roundg (m - (j + 1))
            case measure => have := HJ2.out; omega
            case rel => exact ⟨j + 1, V + V, by omega, by go_num, by go_num, by omega, by omega, HV2, rfl⟩
          · obtain rfl : j = m := by omega
            have HQ2 := Lib.hid (HQQ.out V HV.out)
            clear HQQ HV
            go_wp2_with fail
            go_roundg (len2 - (k + 1))
            case measure => have := HJ.out; omega
            case rel => exact ⟨k + 1, wrap64 (S + V), by omega, by go_num, rfl, HQ2, Lib.hid HA.out.symm, rfl⟩
      · rw [term_no g4, Int.add_zero] at HN
        have HS2 : Hid (S = wrap64 (estTo v l d (k + 1))) := Lib.hid (by rw [HN.out, HS.out])
        have g5 : r < thr (m : Int) := by omega
        clear HN HS HX g4
        generalize thr (m : Int) = th at *
        go_wp2_with fail
        refine CD.out.mono ?_
        rintro e w2 ⟨rfl, rfl⟩
        go_wp2_with fail
        refine (CL.out _).mono ?_
        rintro e w3 ⟨rfl, rfl⟩
        go_wp2_with fail
        go_roundg (len2 - (k + 1))
        case measure => have := HJ.out; omega
        case rel => exact ⟨k + 1, S, by omega, by go_num, rfl, HS2, Lib.hid HA.out.symm, rfl⟩
    · obtain rfl : k = len2 := by omega
      obtain rfl : B = true := by
        rw [← HB.out, List.drop_of_length_le (by rw [HL3.out]; omega)]; rfl
      obtain rfl : E = 0 := HE.out
      obtain rfl : T = S := by rw [HTT.out, if_pos rfl, HS.out]
      go_wp2
      go_ret2
      exact ⟨rfl, rfl⟩
end Go.Proofs.Ytfgcmlgdgmcffaa
