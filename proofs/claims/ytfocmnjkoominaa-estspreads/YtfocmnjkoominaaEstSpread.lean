/- The contract of the program's est.Spread. -/
import Derived.Test.YtfocmnjkoominaaEstCheck
namespace Go.Proofs.Ytfocmnjkoominaa
open Go.ChangeShapes Go.WideShapes Go.ChangeAt Go.RowKit
open Est

theorem spreadE_items {v l : List Int} (h : itemsE v l ≠ 0) : spreadE v l = itemsE v l := if_neg h
theorem spreadR_bad {v l : List Int} {E : Int} (h : spreadE v l = E) (hE : E ≠ 0) : spreadR v l = 0 := if_neg (by rw [h]; exact hE)

set_option maxRecDepth 100000 in
set_option maxHeartbeats 2000000 in
theorem spread_any (a b : Option Addr) (len cap len2 cap2 : Nat) (v l : List Int) (w : World) (h : Tab w a len cap 1 (v.map iC)) (h2 : Tab w b len2 cap2 1 (l.map iC)) :
    Calls Try.prog 19 #[.slice a len cap, .slice b len2 cap2] w fun e w' => e = .returned (.tuple #[.int .i64 (spreadR v l), .int .i64 (spreadE v l)]) ∧ w = w' := by
  have hl := h.hlen
  have hm := h.hmax
  have hle := h.hle
  rw [List.length_map] at hl
  have hl2 := h2.hlen
  rw [List.length_map] at hl2
  unfold maxLen at hm
  have HC := Lib.hid (estCheck_any a b len cap len2 cap2 v l w h h2)
  have HT := Lib.hid h
  have HT2 := Lib.hid h2
  have HL := Lib.hid hl
  have HL2 := Lib.hid hl2
  clear h h2
  by_cases c1 : itemsE v l ≠ 0
  · rw [spreadR_bad (spreadE_items c1) c1, spreadE_items c1]
    have t : (itemsE v l != 0) = true := by simpa using c1
    clear hl hl2 c1
    generalize itemsE v l = E at *
    go_enter Try.func19, Try.ntmps19
    go_wp2_with fail
    refine HC.out.mono ?_
    rintro e w1 ⟨rfl, rfl⟩
    go_wp2
    go_ret2
    exact ⟨rfl, rfl⟩
  have c1' : itemsE v l = 0 := by omega
  rw [c1'] at HC
  have hS : spreadE v l = if v.all okM = true then (if 1152921504606846976 < wideTo v l v.length then 2 else 0) else 1 := if_pos c1'
  obtain ⟨z1, z2, z3⟩ := itemsE_zero c1'
  have zl := levels_of c1'
  have h40 : len ≤ 40 := by omega
  obtain rfl : len2 = len := by omega
  obtain ⟨B, hB⟩ : ∃ B, (v.drop 0).all okM = B := ⟨_, rfl⟩
  have HBM : Hid (B = true → ∀ x ∈ v, -1000000 ≤ x ∧ x ≤ 1000000) := Lib.hid (fun hb x hx => by
    rw [hb] at hB
    exact okM_iff.1 (List.all_eq_true.1 hB x hx))
  rw [show v.all okM = B from hB, hl] at hS
  obtain ⟨E, hE⟩ : ∃ E, spreadE v l = E := ⟨_, rfl⟩
  obtain ⟨T, hT⟩ : ∃ T, spreadR v l = T := ⟨_, rfl⟩
  have HTT : Hid (T = if E = 0 then wideTo v l len2 else 0) := Lib.hid (by rw [← hT, ← hE, ← hl]; rfl)
  rw [hE] at hS ⊢
  rw [hT]
  have HE := Lib.hid hS
  have HB := Lib.hid hB
  have HZ := Lib.hid z3
  have HZL : Hid (∀ n ∈ l, n ≤ 20) := Lib.hid (fun n hn => (zl n hn).2)
  clear hS hB hE hT hl hl2 c1 c1' z1 z2 z3 zl
  go_enter Try.func19, Try.ntmps19
  go_wp2_with fail
  refine HC.out.mono ?_
  rintro e w1 ⟨rfl, rfl⟩
  clear HC
  go_wp2_with fail
  go_loopg [20] len2 (fun g i wr => ∃ k : Nat, k + g = len2 ∧ i = .int .i64 k ∧ Hid ((v.drop k).all okM = B) ∧ wr = w)
  case atStart => exact ⟨0, by omega, rfl, HB, rfl⟩
  case round =>
    clear HB
    obtain ⟨k, hk0, rfl, HB, rfl⟩ := hrel
    have HJ := Lib.hid hk0
    have hk : k ≤ len2 := by omega
    clear hk0
    by_cases hlt : k < len2
    · obtain ⟨x, hx⟩ : ∃ x, v[k]? = some x := ⟨_, List.getElem?_eq_getElem (by rw [HL.out]; exact hlt)⟩
      obtain ⟨b1, o1, ha, hbs, d0⟩ := HT.out.one (Below.refl _ _) (map_get hx)
      have HA := Lib.hid (all_at (p := okM) hx)
      rw [HB.out] at HA
      subst ha
      clear hx
      by_cases g1 : x < -1000000
      · rw [okM_no (by omega)] at HA
        obtain rfl : B = false := HA.out.trans (by simp)
        obtain rfl : E = 1 := HE.out
        obtain rfl : T = 0 := HTT.out
        go_wp2_with fail
        refine (estWithin_low x 1000000 _ (by omega) g1).mono ?_
        rintro e w2 ⟨rfl, rfl⟩
        go_wp2
        go_ret2
        exact ⟨rfl, rfl⟩
      by_cases g2 : 1000000 < x
      · rw [okM_no (by omega)] at HA
        obtain rfl : B = false := HA.out.trans (by simp)
        obtain rfl : E = 1 := HE.out
        obtain rfl : T = 0 := HTT.out
        go_wp2_with fail
        refine (estWithin_high x 1000000 _ (by omega) g2).mono ?_
        rintro e w2 ⟨rfl, rfl⟩
        go_wp2
        go_ret2
        exact ⟨rfl, rfl⟩
      have G := Lib.hid (And.intro (show -1000000 ≤ x by omega) (show x ≤ 1000000 by omega))
      rw [okM_iff.2 G.out, Bool.true_and] at HA
      clear g1 g2
      go_wp2_with fail
      refine (estWithin_yes x 1000000 _ (by omega) G.out.1 G.out.2).mono ?_
      rintro e w2 ⟨rfl, rfl⟩
      go_wp2_with fail
      go_roundg (len2 - (k + 1))
      case measure => have := HJ.out; omega
      case rel => exact ⟨k + 1, by omega, by go_num, Lib.hid HA.out.symm, rfl⟩
    · obtain rfl : k = len2 := by omega
      obtain rfl : B = true := by
        rw [← HB.out, List.drop_of_length_le (by rw [HL.out]; omega)]; rfl
      have HM := Lib.hid (HBM.out rfl)
      have HE' : Hid (E = if 1152921504606846976 < wideTo v l k then 2 else 0) := HE
      clear HB HBM HE
      obtain ⟨wo, hwo⟩ : ∃ wo, wo = wr := ⟨_, rfl⟩
      subst hwo
      go_wp2_with fail
      go_loopg [9, 30] k (fun g s i wr => ∃ (j : Nat) (S : Int), j + g = k ∧ i = .int .i64 j ∧ s = .int .i64 S ∧ 0 ≤ S ∧ S ≤ 1152921504606846976 ∧ Hid (S = wideTo v l j) ∧ wr = wo)
      case atStart => exact ⟨0, 0, by omega, rfl, rfl, by omega, by omega, Lib.hid rfl, rfl⟩
      case round =>
        obtain ⟨j, S, hj0, rfl, rfl, hS0, hS1, HS, rfl⟩ := hrel
        have HJ := Lib.hid hj0
        have hj : j ≤ k := by omega
        clear hj0
        by_cases hlt : j < k
        · obtain ⟨x, hx⟩ : ∃ x, v[j]? = some x := ⟨_, List.getElem?_eq_getElem (by rw [HL.out]; exact hlt)⟩
          obtain ⟨n, hn⟩ : ∃ x, l[j]? = some x := ⟨_, List.getElem?_eq_getElem (by rw [HL2.out]; exact hlt)⟩
          obtain ⟨b1, o1, ha, hbs, d0⟩ := HT.out.one (Below.refl _ _) (map_get hx)
          obtain ⟨b2, o2, ha2, hbs2, d2⟩ := HT2.out.one (Below.refl _ _) (map_get hn)
          have hz := HZ.out j x n hx hn
          have hx6 := HM.out x (List.mem_of_getElem? hx)
          have HN := Lib.hid (wideTo_succ hx hn)
          have hwd := wide_bd hx6.1 hx6.2 hz.2.2.2
          obtain ⟨m, rfl⟩ := Int.eq_ofNat_of_zero_le hz.2.2.1
          have hm20 : m ≤ 20 := by have := hz.2.2.2; omega
          have hp := pow_bd m hm20
          have hs := sq_bd hx6.1 hx6.2
          obtain ⟨W, hW⟩ : ∃ W, wide x (m : Int) = W := ⟨_, rfl⟩
          rw [hW] at HN hwd
          unfold wide at hW
          rw [Int.toNat_natCast] at hW
          obtain ⟨p, hpp⟩ : ∃ p : Nat, 2 ^ m = p := ⟨_, rfl⟩
          have HPW : Hid ((2 : Int) ^ m = (p : Int)) := Lib.hid (by rw [← hpp, Int.natCast_pow]; rfl)
          rw [hpp] at hp hW
          obtain ⟨q, hq⟩ : ∃ q, x * x = q := ⟨_, rfl⟩
          rw [hq] at hs hW
          have e1 : wrap64 (x * x) = q := by rw [hq]; exact wrap_id (by omega) (by omega)
          have e2 : wrap64 ((2 : Int) ^ m) = (p : Int) := by rw [HPW.out]; exact wrap_id (by omega) (by omega)
          have e3 : wrap64 (q * ((p : Int) - 1)) = W := by rw [hW]; exact wrap_id (by omega) (by omega)
          have hS' : S + W = wideTo v l (j + 1) := by rw [HN.out, HS.out]
          have HS' := Lib.hid hS'
          have HLE := Lib.hid (wideTo_le HM.out HZL.out (show j + 1 ≤ k by omega))
          have w0 := hwd.1
          have w1 := hwd.2
          have p0 := hp.1
          have p1 := hp.2
          have q0 := hs.1
          have q1 := hs.2
          subst ha ha2
          clear hx hn hz hx6 hwd hpp hq hs hW hS' hp HPW
          by_cases g1 : 1152921504606846976 < S + W
          · obtain rfl : E = 2 := by rw [HE'.out, if_pos (by have := HLE.out; have := HS'.out; omega)]
            obtain rfl : T = 0 := HTT.out
            go_wp2
            go_ret2
            exact ⟨rfl, rfl⟩
          · have g1' : S + W ≤ 1152921504606846976 := by omega
            clear g1
            go_wp2_with fail
            go_roundg (k - (j + 1))
            case measure => have := HJ.out; omega
            case rel => exact ⟨j + 1, S + W, by omega, by go_num, by go_num, by omega, g1', HS', rfl⟩
        · obtain rfl : j = k := by omega
          obtain rfl : E = 0 := by rw [HE'.out, if_neg (by have := HS.out; omega)]
          obtain rfl : T = S := by rw [HTT.out, if_pos rfl, HS.out]
          go_wp2
          go_ret2
          exact ⟨rfl, rfl⟩
end Go.Proofs.Ytfocmnjkoominaa
