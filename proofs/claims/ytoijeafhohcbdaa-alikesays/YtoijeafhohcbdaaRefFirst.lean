/- The contracts of the document's own sets and first ones (culref.Things, culref.First). -/
import Derived.Test.YtoijeafhohcbdaaAlikeMath
import Derived.Test.YtoijeafhohcbdaaRefOrder
namespace Go.Proofs.Ytoijeafhohcbdaa
open Go.ChangeShapes Go.WideShapes Go.ChangeAt Go.RowKit
open Alk Digit

namespace Alk
def setT (n : Nat) (l : List Int) : Int := if n < l.length then 2 else goS n (-1) l
theorem setE_T {n : Nat} {l : List Int} : setE n l = if setT n l ≠ 0 then setT n l else if l = [] then 4 else 0 := by
  unfold setE setT
  by_cases h : n < l.length
  · rw [if_pos h, if_pos h, if_pos (by decide)]
  · rw [if_neg h, if_neg h]
end Alk

set_option maxRecDepth 100000 in
set_option maxHeartbeats 2000000 in
theorem refThings_any (n : Nat) (a : Option Addr) (len cap : Nat) (l : List Int) (w : World) (h : Tab w a len cap 1 (l.map iC)) (hn : n ≤ 12) :
    Calls Try.prog 49 #[.slice a len cap, .int .i64 n] w fun e w' => e = .returned (.int .i64 (setT n l)) ∧ w = w' := by
  have hl := h.hlen
  rw [List.length_map] at hl
  have hm := h.hmax
  unfold maxLen at hm
  have hle := h.hle
  by_cases h1 : n < len
  · have E : setT n l = 2 := if_pos (by omega)
    rw [E]
    clear E h hl
    go_enter Try.func49, Try.ntmps49
    go_wp2
    go_ret
    exact ⟨rfl, rfl⟩
  have h1' : len ≤ n := by omega
  obtain ⟨E, hE⟩ : ∃ E, setT n l = E := ⟨_, rfl⟩
  have hG : goS n (-1) l = E := by rw [← hE]; exact (if_neg (by omega)).symm
  rw [hE]
  have HG0 : Hid (goS n (lastS l 0) (l.drop 0) = E) := Lib.hid hG
  have HT := Lib.hid h
  have HL := Lib.hid hl
  have t0 : decide (n < len) = false := decide_eq_false h1
  have t1 : decide ((n : Int) < (len : Int)) = false := decide_eq_false (by omega)
  clear h hl h1 hE hG
  go_enter Try.func49, Try.ntmps49
  go_wp2_with fail
  go_loopg [5, 14] len (fun g u i wr => ∃ k : Nat, k + g = len ∧ i = .int .i64 k ∧ u = .int .i64 (lastS l k) ∧ Hid (goS n (lastS l k) (l.drop k) = E) ∧ wr = w)
  case atStart => exact ⟨0, by omega, rfl, rfl, HG0, rfl⟩
  case round =>
    clear HG0
    obtain ⟨k, hk0, rfl, rfl, HGk, rfl⟩ := hrel
    have HJ := Lib.hid hk0
    have hk : k ≤ len := by omega
    clear hk0
    by_cases hlt : k < len
    · obtain ⟨y, hy⟩ : ∃ x, l[k]? = some x := ⟨_, List.getElem?_eq_getElem (by rw [HL.out]; exact hlt)⟩
      obtain ⟨b1, o1, ha, hbs, d0⟩ := HT.out.one (Below.refl _ _) (map_get hy)
      have hA := goS_at (n := n) (last := lastS l k) hy
      rw [HGk.out] at hA
      have HLS := Lib.hid (lastS_succ hy)
      have HA := Lib.hid hA
      have HW := fun W => within_ref y 0 ((n : Int) - 1) W
      generalize lastS l k = u at *
      clear hA
      by_cases g1 : y < 0 ∨ (n : Int) ≤ y
      · obtain rfl : E = 1 := by rw [HA.out, if_pos g1]
        rw [show (decide (0 ≤ y) && decide (y ≤ (n : Int) - 1)) = false from by rw [← Bool.not_eq_true, Bool.and_eq_true, decide_eq_true_iff, decide_eq_true_iff]; omega] at HW
        replace HW := Lib.hid HW
        subst ha
        clear hy HA g1
        go_wp2_with fail
        refine (HW.out _).mono ?_
        rintro e w1 ⟨rfl, hw⟩
        rw [← hw]
        clear hw
        go_wp2
        go_ret
        exact ⟨rfl, rfl⟩
      rw [if_neg g1] at HA
      rw [show (decide (0 ≤ y) && decide (y ≤ (n : Int) - 1)) = true from by rw [Bool.and_eq_true, decide_eq_true_iff, decide_eq_true_iff]; omega] at HW
      replace HW := Lib.hid HW
      subst ha
      clear hy g1
      by_cases g3 : y ≤ u
      · obtain rfl : E = 3 := by rw [HA.out, if_pos g3]
        clear HA
        go_wp2_with fail
        refine (HW.out _).mono ?_
        rintro e w1 ⟨rfl, hw⟩
        rw [← hw]
        clear hw
        go_wp2
        go_ret
        exact ⟨rfl, rfl⟩
      · rw [if_neg g3] at HA
        have g3' : u < y := by omega
        clear g3
        go_wp2_with fail
        refine (HW.out _).mono ?_
        rintro e w1 ⟨rfl, hw⟩
        rw [← hw]
        clear hw
        go_wp2_with fail
        go_roundg (len - (k + 1))
        case measure => have := HJ.out; omega
        case rel => exact ⟨k + 1, by omega, by go_num, by rw [HLS.out], Lib.hid (by rw [HLS.out, ← HA.out]), rfl⟩
    · obtain rfl : k = len := by omega
      obtain rfl : E = 0 := by rw [← HGk.out, List.drop_of_length_le (by rw [HL.out]; omega)]; rfl
      go_wp2
      go_ret
      exact ⟨rfl, rfl⟩

set_option maxRecDepth 100000 in
set_option maxHeartbeats 2000000 in
theorem refFirst_any (a b : Option Addr) (len cap len2 cap2 : Nat) (o l : List Int) (w : World) (h1 : Tab w a len cap 1 (o.map iC)) (h2 : Tab w b len2 cap2 1 (l.map iC)) :
    Calls Try.prog 15 #[.slice a len cap, .slice b len2 cap2] w fun e w' => e = .returned (.tuple #[.int .i64 (firstR o l), .int .i64 (firstE o l)]) ∧ w = w' := by
  have C1 := refOrder_any a len cap o w h1
  by_cases g1 : checkD o ≠ 0
  · have E : firstE o l = checkD o := if_pos g1
    have R : firstR o l = 0 := if_neg (by rw [E]; exact g1)
    rw [E, R]
    have t : (checkD o != 0) = true := by simpa using g1
    replace C1 := Lib.hid C1
    clear E R h1 h2 g1
    generalize checkD o = D at *
    go_enter Try.func15, Try.ntmps15
    go_wp2_with fail
    refine C1.out.mono ?_
    rintro e w1 ⟨rfl, hw1⟩
    rw [← hw1]
    clear hw1
    go_wp2
    go_ret2
    exact ⟨rfl, rfl⟩
  have g1' : checkD o = 0 := by omega
  rw [g1'] at C1
  replace C1 := Lib.hid C1
  obtain ⟨o12, hok⟩ := checkD_zero g1'
  have hl := h1.hlen
  rw [List.length_map] at hl
  have hl2 := h2.hlen
  rw [List.length_map] at hl2
  have hlen : len ≤ 12 := by omega
  have E : firstE o l = setE len l := by unfold firstE; rw [if_neg g1, hl]
  have C2 := refThings_any len b len2 cap2 l w h2 hlen
  by_cases g2 : setT len l ≠ 0
  · have E2 : setE len l = setT len l := by rw [setE_T, if_pos g2]
    have R : firstR o l = 0 := if_neg (by rw [E, E2]; exact g2)
    rw [E, E2, R]
    have t : (setT len l != 0) = true := by simpa using g2
    replace C2 := Lib.hid C2
    clear E E2 R h1 h2 g1 g1' g2 o12 hok hl hl2
    generalize setT len l = D at *
    go_enter Try.func15, Try.ntmps15
    go_wp2_with fail
    refine C1.out.mono ?_
    rintro e w1 ⟨rfl, hw1⟩
    rw [← hw1]
    clear hw1
    go_wp2_with fail
    refine C2.out.mono ?_
    rintro e w1 ⟨rfl, hw1⟩
    rw [← hw1]
    clear hw1
    go_wp2
    go_ret2
    exact ⟨rfl, rfl⟩
  have g2' : setT len l = 0 := by omega
  rw [g2'] at C2
  replace C2 := Lib.hid C2
  have hb : ∀ y ∈ l, 0 ≤ y ∧ y < (len : Int) := by
    have h9 := g2'
    unfold setT at h9
    split at h9
    · cases h9
    · exact (goS_zero h9).2
  have HX : Hid (∀ (k j : Nat) (x : Int), l[j]? = some x → atO o x = k → (∀ y ∈ l, (k : Int) ≤ atO o y) → firstR o l = x ∧ firstE o l = 0) := Lib.hid (fun k j x hx hk hall => by
    have hm := List.mem_of_getElem? hx
    have hne : l ≠ [] := by intro h; rw [h] at hm; cases hm
    have e0 : firstE o l = 0 := by rw [E, setE_T, if_neg g2, if_neg hne]
    refine ⟨?_, e0⟩
    rw [show firstR o l = firstV o l from if_pos e0]
    exact firstV_uniq hok (fun y hy => by rw [hl]; exact hb y hy) hm (fun y hy => by rw [hk]; exact hall y hy))
  have HY : Hid ((∀ y ∈ l, (len : Int) ≤ atO o y) → firstR o l = 0 ∧ firstE o l = 4) := Lib.hid (fun hall => by
    have hne : l = [] := by
      cases hc : l with
      | nil => rfl
      | cons x l' =>
        have hx : x ∈ l := by rw [hc]; exact List.mem_cons_self ..
        have h3 := hall x hx
        have h4 := hb x hx
        unfold atO at h3
        rw [List.getElem?_eq_getElem (show x.toNat < o.length by omega), Option.getD_some] at h3
        have h5 := hok.2 _ (List.getElem_mem (show x.toNat < o.length by omega))
        omega
    have e4 : firstE o l = 4 := by rw [E, setE_T, if_neg g2, if_pos hne]
    exact ⟨if_neg (by rw [e4]; decide), e4⟩)
  have HP : Hid (∀ (j : Nat) (x : Int), l[j]? = some x → ∃ (i : Nat) (u : Int), x = i ∧ i < len ∧ o[i]? = some u ∧ atO o x = u) := Lib.hid (fun j x hx => by
    have h4 := hb x (List.mem_of_getElem? hx)
    refine ⟨x.toNat, o[x.toNat], by omega, by omega, List.getElem?_eq_getElem (by omega), ?_⟩
    unfold atO
    rw [List.getElem?_eq_getElem (show x.toNat < o.length by omega)]
    rfl)
  have HPOS : Hid (∀ y ∈ l, (0 : Int) ≤ atO o y) := Lib.hid (fun y hy => by
    have h4 := hb y hy
    unfold atO
    rw [List.getElem?_eq_getElem (show y.toNat < o.length by omega), Option.getD_some]
    exact (hok.2 _ (List.getElem_mem (show y.toNat < o.length by omega))).1)
  have H1 := Lib.hid h1
  have H2 := Lib.hid h2
  have HL2 := Lib.hid hl2
  have hm2 := h2.hmax
  have hle2 := h2.hle
  unfold maxLen at hm2
  obtain ⟨R, hR⟩ : ∃ R, firstR o l = R := ⟨_, rfl⟩
  obtain ⟨D, hD⟩ : ∃ D, firstE o l = D := ⟨_, rfl⟩
  rw [hR, hD] at HX HY ⊢
  clear E h1 h2 g1 g1' g2 g2' o12 hok hl hl2 hb hR hD
  go_enter Try.func15, Try.ntmps15
  go_wp2_with fail
  refine C1.out.mono ?_
  rintro e w1 ⟨rfl, hw1⟩
  rw [← hw1]
  clear hw1
  go_wp2_with fail
  refine C2.out.mono ?_
  rintro e w1 ⟨rfl, hw1⟩
  rw [← hw1]
  clear hw1 C1 C2
  go_wp2_with fail
  go_loopg [25] len (fun g i wr => ∃ k : Nat, k + g = len ∧ i = .int .i64 k ∧ Hid (∀ y ∈ l, (k : Int) ≤ atO o y) ∧ wr = w)
  case atStart => exact ⟨0, by omega, rfl, HPOS, rfl⟩
  case round =>
    clear HPOS
    obtain ⟨k, hk0, rfl, HK, rfl⟩ := hrel
    have HJ := Lib.hid hk0
    have hk : k ≤ len := by omega
    clear hk0
    obtain ⟨wo, hwo⟩ : ∃ wo, wo = wr := ⟨_, rfl⟩
    subst hwo
    by_cases hlt : k < len
    · clear HY
      go_wp2_with fail
      go_loopg [30] len2 (fun g i wr => ∃ j : Nat, j + g = len2 ∧ i = .int .i64 j ∧ Hid (∀ i x, i < j → l[i]? = some x → atO o x ≠ k) ∧ wr = wo)
      case atStart => exact ⟨0, by omega, rfl, Lib.hid (fun i x hi => by omega), rfl⟩
      case round =>
        obtain ⟨j, hj0, rfl, HQ, rfl⟩ := hrel
        have HJ2 := Lib.hid hj0
        have hj : j ≤ len2 := by omega
        clear hj0
        obtain ⟨wq, hwq⟩ : ∃ wq, wq = wr := ⟨_, rfl⟩
        subst hwq
        by_cases hlt2 : j < len2
        · obtain ⟨x, hx⟩ : ∃ x, l[j]? = some x := ⟨_, List.getElem?_eq_getElem (by rw [HL2.out]; exact hlt2)⟩
          obtain ⟨b1, o1, ha, _, c0⟩ := H2.out.one (Below.refl _ _) (map_get hx)
          obtain ⟨i, u, rfl, hi, hu, hau⟩ := HP.out j x hx
          obtain ⟨b2, o2, ha2, _, c1⟩ := H1.out.one (Below.refl _ _) (map_get hu)
          have HXX := Lib.hid hx
          have HAU := Lib.hid hau
          subst ha ha2
          clear hx hu hau
          by_cases huk : u = (k : Int)
          · obtain ⟨hr, hd⟩ := HX.out k j _ HXX.out (by rw [HAU.out]; exact huk) HK.out
            subst huk hr hd
            have t2 : ((k : Int) == (k : Int)) = true := by simp
            clear HX HXX HAU
            go_wp2_with fail
            go_ret2
            exact ⟨rfl, rfl⟩
          · have t2 : (u == (k : Int)) = false := by simpa using huk
            have HQ2 : Hid (∀ i x, i < j + 1 → l[i]? = some x → atO o x ≠ k) := Lib.hid (fun i' x' hi' hx' => by
              by_cases hij : i' = j
              · subst hij
                rw [HXX.out, Option.some.injEq] at hx'
                rw [← hx', HAU.out]
                exact huk
              · exact HQ.out i' x' (by omega) hx')
            clear huk HXX HAU
            go_wp2_with fail
            go_roundg (len2 - (j + 1))
            case measure => have := HJ2.out; omega
            case rel => exact ⟨j + 1, by omega, by go_num, HQ2, rfl⟩
        · obtain rfl : j = len2 := by omega
          have HK2 : Hid (∀ y ∈ l, ((k + 1 : Nat) : Int) ≤ atO o y) := Lib.hid (fun y hy => by
            obtain ⟨i, hi⟩ := List.getElem?_of_mem hy
            have h3 := HK.out y hy
            have h4 := HQ.out i y (by have := (List.getElem?_eq_some_iff.1 hi).1; rw [HL2.out] at this; exact this) hi
            omega)
          clear HK HQ
          go_wp2_with fail
          go_roundg (len - (k + 1))
          case measure => have := HJ.out; omega
          case rel => exact ⟨k + 1, by omega, by go_num, HK2, rfl⟩
    · obtain rfl : k = len := by omega
      obtain ⟨hr, hd⟩ := HY.out HK.out
      subst hr hd
      clear HX HP HK HY
      go_wp2
      go_ret2
      exact ⟨rfl, rfl⟩
end Go.Proofs.Ytoijeafhohcbdaa
