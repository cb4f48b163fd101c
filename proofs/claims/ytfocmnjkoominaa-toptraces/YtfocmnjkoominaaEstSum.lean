/- The contract of the program's est.Sum. -/
import Derived.Test.YtfocmnjkoominaaEstCheck
import Derived.Test.YtfocmnjkoominaaGateKeep
import Derived.BigQuiet
namespace Go.Proofs.Ytfocmnjkoominaa
open Go.ChangeShapes Go.WideShapes Go.ChangeAt Go.RowKit
open Est Span

theorem sumE_items {v l d : List Int} (h : itemsE v l ≠ 0) : sumE v l d = itemsE v l := if_neg h
theorem sumR_bad {v l d : List Int} {E : Int} (h : sumE v l d = E) (hE : E ≠ 0) : sumR v l d = 0 := if_neg (by rw [h]; exact hE)
theorem shl_eq {x X : Int} {p : Nat} (n : Nat) (hp : 2 ^ n = p) (hX : x * (p : Int) = X) (h0 : -9223372036854775808 ≤ X) (h1 : X ≤ 9223372036854775807) : wrap64 (x * 2 ^ n) = X := by
  have e : ((2 : Int) ^ n) = (p : Int) := by rw [← hp, Int.natCast_pow]; rfl
  rw [e, hX]
  exact wrap_id h0 h1

set_option maxRecDepth 100000 in
set_option maxHeartbeats 2000000 in
theorem sum_any (a b c : Option Addr) (len cap len2 cap2 len3 cap3 : Nat) (v l d : List Int) (w : World) (h : Tab w a len cap 1 (v.map iC)) (h2 : Tab w b len2 cap2 1 (l.map iC)) (h3 : Tab w c len3 cap3 1 (d.map iC)) :
    Calls Try.prog 24 #[.slice a len cap, .slice b len2 cap2, .slice c len3 cap3] w fun e w' => e = .returned (.tuple #[.int .i64 (sumR v l d), .int .i64 (sumE v l d)]) ∧ Below w.heap.size w w' := by
  have hl := h.hlen
  have hm := h.hmax
  have hle := h.hle
  rw [List.length_map] at hl
  have hl2 := h2.hlen
  rw [List.length_map] at hl2
  have hl3 := h3.hlen
  have hm3 := h3.hmax
  have hle3 := h3.hle
  rw [List.length_map] at hl3
  unfold maxLen at hm hm3
  have HC := Lib.hid (estCheck_any a b len cap len2 cap2 v l w h h2)
  have HT := Lib.hid h
  have HT2 := Lib.hid h2
  have HT3 := Lib.hid h3
  have HL := Lib.hid hl
  have HL2 := Lib.hid hl2
  have HL3 := Lib.hid hl3
  clear h h2 h3
  by_cases c1 : itemsE v l ≠ 0
  · rw [sumR_bad (sumE_items c1) c1, sumE_items c1]
    have t : (itemsE v l != 0) = true := by simpa using c1
    clear hl hl2 hl3 c1
    generalize itemsE v l = E at *
    go_enter Try.func24, Try.ntmps24
    go_wp2_with fail
    refine HC.out.mono ?_
    rintro e w1 ⟨rfl, rfl⟩
    go_wp2
    go_ret2
    exact ⟨rfl, Below.refl _ _⟩
  have c1' : itemsE v l = 0 := by omega
  rw [c1'] at HC
  have hS : sumE v l d = if d.length ≠ v.length then 7 else if d.all okD = true then 0 else 1 := if_pos c1'
  by_cases c2 : len3 ≠ len
  · rw [if_pos (by omega)] at hS
    rw [sumR_bad hS (by decide), hS]
    have t : ((len3 : Int) != (len : Int)) = true := by simp; omega
    clear hl hl2 hl3 c1 c1' c2 hS
    go_enter Try.func24, Try.ntmps24
    go_wp2_with fail
    refine HC.out.mono ?_
    rintro e w1 ⟨rfl, rfl⟩
    go_wp2
    go_ret2
    exact ⟨rfl, Below.refl _ _⟩
  obtain rfl : len3 = len := by omega
  rw [if_neg (by omega)] at hS
  obtain ⟨z1, z2, z3⟩ := itemsE_zero c1'
  have h40 : len3 ≤ 40 := by omega
  obtain rfl : len2 = len3 := by omega
  have HZ := Lib.hid z3
  obtain ⟨B, hB⟩ : ∃ B, (d.drop 0).all okD = B := ⟨_, rfl⟩
  rw [show d.all okD = B from hB] at hS
  obtain ⟨E, hE⟩ : ∃ E, sumE v l d = E := ⟨_, rfl⟩
  obtain ⟨T, hT⟩ : ∃ T, sumR v l d = T := ⟨_, rfl⟩
  have HTT : Hid (T = if E = 0 then wrap64 (estTo v l d len2) else 0) := Lib.hid (by rw [← hT, ← hE, ← hl]; rfl)
  rw [hE] at hS ⊢
  rw [hT]
  have HE := Lib.hid hS
  have HB := Lib.hid hB
  have t : ((len2 : Int) != (len2 : Int)) = false := by simp
  have HKK := Lib.hid (fun n r r0 r1 W => keep_ok (thr n) r (thr_bd n).1 (thr_bd n).2 r0 r1 W)
  have HKB := Lib.hid (fun n r hr W => keep_bad (thr n) r (Or.inr hr) W)
  have HLV : Hid (∀ (n : Int), 0 ≤ n → n ≤ 20 → ∀ W : World, Calls Try.prog 49 #[.int .i64 n] W fun e w' => e = .returned (.tuple #[.int .i64 (thr n), .int .i64 0]) ∧ W = w') := Lib.hid (fun n h0 h1 W => level_int n h0 h1 W)
  clear hS hB hE hT hl hl2 hl3 c1 c1' c2 z1 z2 z3 hm3 hle3
  go_enter Try.func24, Try.ntmps24
  go_wp2_with fail
  refine HC.out.mono ?_
  rintro e w1 ⟨rfl, rfl⟩
  clear HC
  go_wp2_with fail
  clear t
  go_loopg [9, 29] len2 (fun g s i wr => ∃ (k : Nat) (S : Int), k + g = len2 ∧ i = .int .i64 k ∧ s = .int .i64 S ∧ Hid (S = wrap64 (estTo v l d k)) ∧ Hid ((d.drop k).all okD = B) ∧ Hid (Below w.heap.size w wr))
  case atStart => exact ⟨0, 0, by omega, rfl, rfl, Lib.hid (by rw [estTo]; exact (wrap_id (by omega) (by omega)).symm), HB, Lib.hid (Below.refl _ _)⟩
  case round =>
    clear HB
    obtain ⟨k, S, hk0, rfl, rfl, HS, HB, HW⟩ := hrel
    have HJ := Lib.hid hk0
    have hk : k ≤ len2 := by omega
    clear hk0
    by_cases hlt : k < len2
    · obtain ⟨x, hx⟩ : ∃ x, v[k]? = some x := ⟨_, List.getElem?_eq_getElem (by rw [HL.out]; exact hlt)⟩
      obtain ⟨n, hn⟩ : ∃ x, l[k]? = some x := ⟨_, List.getElem?_eq_getElem (by rw [HL2.out]; exact hlt)⟩
      obtain ⟨r, hr⟩ : ∃ x, d[k]? = some x := ⟨_, List.getElem?_eq_getElem (by rw [HL3.out]; exact hlt)⟩
      obtain ⟨b1, o1, ha, hbs, d0⟩ := HT.out.one HW.out (map_get hx)
      obtain ⟨b2, o2, ha2, hbs2, d2⟩ := HT2.out.one HW.out (map_get hn)
      obtain ⟨b3, o3, ha3, hbs3, d3⟩ := HT3.out.one HW.out (map_get hr)
      have hz := HZ.out k x n hx hn
      have HX := Lib.hid hz
      have HN := Lib.hid (estTo_succ hx hn hr)
      have HA := Lib.hid (all_at (p := okD) hr)
      rw [HB.out] at HA
      have HLV' := Lib.hid (HLV.out n hz.2.2.1 hz.2.2.2)
      subst ha ha2 ha3
      clear hx hn hr hz HLV
      by_cases g1 : r < 0 ∨ 72057594037927936 ≤ r
      · rw [okD_no g1] at HA
        obtain rfl : B = false := HA.out.trans (by simp)
        obtain rfl : E = 1 := HE.out
        obtain rfl : T = 0 := HTT.out
        have HKB' := Lib.hid (HKB.out n r g1)
        clear g1 HKB HKK
        generalize thr n = th at *
        go_wp2_with fail
        refine (HLV'.out _).mono ?_
        rintro e w2 ⟨rfl, rfl⟩
        go_wp2_with fail
        refine (HKB'.out _).mono ?_
        rintro e w3 ⟨rfl, rfl⟩
        go_wp2
        go_ret2
        exact ⟨rfl, HW.out⟩
      have g2 : 0 ≤ r := by omega
      have g3 : r < 72057594037927936 := by omega
      rw [okD_iff.2 ⟨g2, g3⟩, Bool.true_and] at HA
      have HKK' := Lib.hid (HKK.out n r g2 g3)
      clear g1 g2 g3 HKB HKK
      by_cases g4 : thr n ≤ r
      · rw [term_yes g4] at HN
        rw [show decide (thr n ≤ r) = true from decide_eq_true g4] at HKK'
        obtain ⟨m, rfl⟩ := Int.eq_ofNat_of_zero_le HX.out.2.2.1
        have hm20 : m ≤ 20 := by have := HX.out.2.2.2; omega
        have hp := pow_bd m hm20
        rw [Int.toNat_natCast] at HN
        obtain ⟨p, hpp⟩ : ∃ p : Nat, 2 ^ m = p := ⟨_, rfl⟩
        rw [hpp] at hp HN
        have hb := mul_bd (x := x) (p := (p : Int)) (B := 1000000000000) (C := 1048576) HX.out.1 HX.out.2.1 (by omega) (by omega) (by omega)
        obtain ⟨X, hX⟩ : ∃ X, x * (p : Int) = X := ⟨_, rfl⟩
        rw [hX] at hb HN
        have q1 := shl_eq m hpp hX (by omega) (by omega)
        have HQ : Hid (wrap64 (S + X) = wrap64 (estTo v l d (k + 1))) := Lib.hid (by rw [HN.out, HS.out, wrap_add])
        clear g4 hp hpp hb hX HX HN HS
        generalize thr (m : Int) = th at *
        go_wp2_with fail
        refine (HLV'.out _).mono ?_
        rintro e w2 ⟨rfl, rfl⟩
        go_wp2_with fail
        refine (HKK'.out _).mono ?_
        rintro e w3 ⟨rfl, rfl⟩
        go_wp2_with fail
        go_quiet (fail)
        go_wp2_with fail
        go_roundg (len2 - (k + 1))
        case measure => have := HJ.out; omega
        case rel => exact ⟨k + 1, wrap64 (S + X), by omega, by go_num, by first | rfl | (rw [q1]) | (rw [q1]; rfl), HQ, Lib.hid HA.out.symm, Lib.hid (below_drewN HW.out _)⟩
      · rw [term_no g4, Int.add_zero] at HN
        rw [show decide (thr n ≤ r) = false from decide_eq_false g4] at HKK'
        clear g4 HX
        generalize thr n = th at *
        go_wp2_with fail
        refine (HLV'.out _).mono ?_
        rintro e w2 ⟨rfl, rfl⟩
        go_wp2_with fail
        refine (HKK'.out _).mono ?_
        rintro e w3 ⟨rfl, rfl⟩
        go_wp2_with fail
        go_roundg (len2 - (k + 1))
        case measure => have := HJ.out; omega
        case rel => exact ⟨k + 1, S, by omega, by go_num, rfl, Lib.hid (by rw [HN.out, HS.out]), Lib.hid HA.out.symm, HW⟩
    · obtain rfl : k = len2 := by omega
      obtain rfl : B = true := by
        rw [← HB.out, List.drop_of_length_le (by rw [HL3.out]; omega)]; rfl
      obtain rfl : E = 0 := HE.out
      obtain rfl : T = S := by rw [HTT.out, if_pos rfl, HS.out]
      go_wp2
      go_ret2
      exact ⟨rfl, HW.out⟩
end Go.Proofs.Ytfocmnjkoominaa
