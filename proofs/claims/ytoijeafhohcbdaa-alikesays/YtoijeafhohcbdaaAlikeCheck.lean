/- The contracts of the program's alike.checkSet and alike.Same. -/
import Derived.Test.YtoijeafhohcbdaaAlikeMath
import Derived.Test.YtoijeafhohcbdaaShapes
import Derived.Deep.LoopGhost
namespace Go.Proofs.Ytoijeafhohcbdaa
open Go.ChangeShapes Go.WideShapes Go.ChangeAt Go.RowKit
open Alk

set_option maxRecDepth 100000 in
set_option maxHeartbeats 2000000 in
theorem setCheck_any (n : Nat) (a : Option Addr) (len cap : Nat) (l : List Int) (w : World) (h : Tab w a len cap 1 (l.map iC)) (hn : n ≤ 12) :
    Calls Try.prog 44 #[.slice a len cap, .int .i64 n] w fun e w' => e = .returned (.int .i64 (setE n l)) ∧ w = w' := by
  have hl := h.hlen
  rw [List.length_map] at hl
  have hm := h.hmax
  unfold maxLen at hm
  have hle := h.hle
  by_cases h1 : n < len
  · have E : setE n l = 2 := if_pos (by omega)
    rw [E]
    clear E h hl
    go_enter Try.func44, Try.ntmps44
    go_wp2
    go_ret
    exact ⟨rfl, rfl⟩
  have h1' : len ≤ n := by omega
  obtain ⟨E, hE⟩ : ∃ E, setE n l = E := ⟨_, rfl⟩
  have HE : Hid (setE n l = if goS n (-1) l ≠ 0 then goS n (-1) l else if l = [] then 4 else 0) := Lib.hid (if_neg (by omega))
  rw [hE] at HE ⊢
  obtain ⟨G, hG⟩ : ∃ G, goS n (-1) l = G := ⟨_, rfl⟩
  have HG0 : Hid (goS n (lastS l 0) (l.drop 0) = G) := Lib.hid hG
  rw [hG] at HE
  have HT := Lib.hid h
  have HL := Lib.hid hl
  have t0 : decide (n < len) = false := decide_eq_false h1
  have t1 : decide ((n : Int) < (len : Int)) = false := decide_eq_false (by omega)
  clear h hl h1 hE hG
  go_enter Try.func44, Try.ntmps44
  go_wp2_with fail
  go_loopg [13] len (fun g i wr => ∃ k : Nat, k + g = len ∧ i = .int .i64 k ∧ Hid (goS n (lastS l k) (l.drop k) = G) ∧ wr = w)
  case atStart => exact ⟨0, by omega, rfl, HG0, rfl⟩
  case round =>
    clear HG0
    obtain ⟨k, hk0, rfl, HGk, rfl⟩ := hrel
    have HJ := Lib.hid hk0
    have hk : k ≤ len := by omega
    clear hk0
    by_cases hlt : k < len
    · obtain ⟨y, hy⟩ : ∃ x, l[k]? = some x := ⟨_, List.getElem?_eq_getElem (by rw [HL.out]; exact hlt)⟩
      obtain ⟨b1, o1, ha, hbs, d0⟩ := HT.out.one (Below.refl _ _) (map_get hy)
      have hA := goS_at (n := n) (last := lastS l k) hy
      rw [HGk.out] at hA
      have HLS := Lib.hid (lastS_succ hy)
      have HA := Lib.hid hA
      clear hA
      by_cases g1 : y < 0
      · obtain rfl : G = 1 := by rw [HA.out, if_pos (Or.inl g1)]
        obtain rfl : E = 1 := by rw [HE.out, if_pos (by omega)]
        subst ha
        clear hy HA HE
        go_wp2
        go_ret
        exact ⟨rfl, rfl⟩
      by_cases g2 : (n : Int) ≤ y
      · obtain rfl : G = 1 := by rw [HA.out, if_pos (Or.inr g2)]
        obtain rfl : E = 1 := by rw [HE.out, if_pos (by omega)]
        have g1' : 0 ≤ y := by omega
        subst ha
        clear hy HA HE g1
        go_wp2
        go_ret
        exact ⟨rfl, rfl⟩
      rw [if_neg (by omega)] at HA
      have g1' : 0 ≤ y := by omega
      have g2' : y < (n : Int) := by omega
      clear g1 g2
      by_cases hz : k = 0
      · subst hz
        have HA2 : Hid (G = goS n y (l.drop 1)) := Lib.hid (by rw [HA.out]; exact if_neg (by show ¬ y ≤ -1; omega))
        have HLS2 : Hid (lastS l 1 = y) := HLS
        subst ha
        have d0' : wr.cell? ⟨b1, o1, none⟩ = some (.int .i64 y) := by simpa using d0
        clear hy HA HLS d0
        go_wp2_with fail
        go_roundg (len - 1)
        case measure => have := HJ.out; omega
        case rel => exact ⟨1, by omega, by go_num, Lib.hid (by rw [HLS2.out, ← HA2.out]), rfl⟩
      · obtain ⟨j, rfl⟩ : ∃ j, k = j + 1 := ⟨k - 1, by omega⟩
        obtain ⟨x, hx⟩ : ∃ x, l[j]? = some x := ⟨_, List.getElem?_eq_getElem (by rw [HL.out]; omega)⟩
        obtain ⟨b2, o2, ha2, hbs2, d2⟩ := HT.out.one (Below.refl _ _) (map_get hx)
        rw [lastS_succ hx] at HA
        subst ha
        simp only [Option.some.injEq, Addr.mk.injEq, and_true] at ha2
        obtain ⟨rfl, rfl⟩ := ha2
        have e1 : (((j + 1 : Nat) : Int) - 1) = (j : Int) := by omega
        clear hy hx hz
        by_cases g3 : y ≤ x
        · obtain rfl : G = 3 := by rw [HA.out, if_pos g3]
          obtain rfl : E = 3 := by rw [HE.out, if_pos (by omega)]
          clear HA HE
          go_wp2
          go_ret
          exact ⟨rfl, rfl⟩
        · rw [if_neg g3] at HA
          have g3' : x < y := by omega
          clear g3
          go_wp2_with fail
          go_roundg (len - (j + 1 + 1))
          case measure => have := HJ.out; omega
          case rel => exact ⟨j + 1 + 1, by omega, by go_num, Lib.hid (by rw [HLS.out, ← HA.out]), rfl⟩
    · obtain rfl : k = len := by omega
      obtain rfl : G = 0 := by rw [← HGk.out, List.drop_of_length_le (by rw [HL.out]; omega)]; rfl
      by_cases h0 : k = 0
      · subst h0
        obtain rfl : E = 4 := by rw [HE.out, if_neg (by omega), if_pos (List.eq_nil_of_length_eq_zero HL.out)]
        clear HE
        go_wp2
        go_ret
        exact ⟨rfl, rfl⟩
      · obtain rfl : E = 0 := by rw [HE.out, if_neg (by omega), if_neg (fun hn => h0 (by rw [← HL.out, hn]; rfl))]
        have h0' : ((k : Int) == 0) = false := by simpa using h0
        clear HE
        go_wp2
        go_ret
        exact ⟨rfl, rfl⟩

set_option maxRecDepth 100000 in
set_option maxHeartbeats 2000000 in
theorem same_any (a b : Option Addr) (len cap len2 cap2 : Nat) (l m : List Int) (w : World) (h1 : Tab w a len cap 1 (l.map iC)) (h2 : Tab w b len2 cap2 1 (m.map iC)) :
    Calls Try.prog 13 #[.slice a len cap, .slice b len2 cap2] w fun e w' => e = .returned (.tuple #[.int .i64 (if sameE len len2 = 0 then ((sameTo l m len : Nat) : Int) else 0), .int .i64 (sameE len len2)]) ∧ w = w' := by
  have hl := h1.hlen
  have hl2 := h2.hlen
  rw [List.length_map] at hl hl2
  by_cases g1 : 40 < len
  · have E : sameE len len2 = 2 := if_pos (Or.inl g1)
    rw [E, if_neg (by omega)]
    clear E h1 h2 hl hl2
    go_enter Try.func13, Try.ntmps13
    go_wp2
    go_ret2
    exact ⟨rfl, rfl⟩
  by_cases g2 : 40 < len2
  · have E : sameE len len2 = 2 := if_pos (Or.inr g2)
    rw [E, if_neg (by omega)]
    have g1' : len ≤ 40 := by omega
    clear E h1 h2 hl hl2 g1
    go_enter Try.func13, Try.ntmps13
    go_wp2
    go_ret2
    exact ⟨rfl, rfl⟩
  have g1' : len ≤ 40 := by omega
  have g2' : len2 ≤ 40 := by omega
  clear g1 g2
  by_cases g3 : len ≠ len2
  · have E : sameE len len2 = 7 := (if_neg (by omega)).trans (if_pos g3)
    rw [E, if_neg (by omega)]
    have t : ((len : Int) != (len2 : Int)) = true := by simp; omega
    clear E h1 h2 hl hl2 g3
    go_enter Try.func13, Try.ntmps13
    go_wp2
    go_ret2
    exact ⟨rfl, rfl⟩
  have E : sameE len len2 = 0 := (if_neg (by omega)).trans (if_neg g3)
  rw [E, if_pos rfl]
  have g4 : len = len2 := by omega
  subst g4
  obtain ⟨R, hR⟩ : ∃ R, sameTo l m len = R := ⟨_, rfl⟩
  rw [hR]
  have HR := Lib.hid hR
  have H1 := Lib.hid h1
  have H2 := Lib.hid h2
  have HL := Lib.hid (And.intro hl hl2)
  have t : ((len : Int) != (len : Int)) = false := by simp
  clear E h1 h2 hl hl2 g3 hR
  go_enter Try.func13, Try.ntmps13
  go_wp2_with fail
  go_loopg [6, 24] len (fun g c i wr => wr = w ∧ ∃ k : Nat, k + g = len ∧ i = .int .i64 k ∧ c = .int .i64 (sameTo l m k : Nat))
  case atStart => exact ⟨rfl, 0, by omega, rfl, rfl⟩
  case round =>
    obtain ⟨rfl, k, hk0, rfl, rfl⟩ := hrel
    have HJ := Lib.hid hk0
    have hk : k ≤ len := by omega
    clear hk0
    by_cases hlt : k < len
    · obtain ⟨x, hx⟩ : ∃ x, l[k]? = some x := ⟨_, List.getElem?_eq_getElem (by rw [HL.out.1]; exact hlt)⟩
      obtain ⟨y, hy⟩ : ∃ x, m[k]? = some x := ⟨_, List.getElem?_eq_getElem (by rw [HL.out.2]; exact hlt)⟩
      obtain ⟨b1, o1, ha, _, c0⟩ := H1.out.one (Below.refl _ _) (map_get hx)
      obtain ⟨b2, o2, ha2, _, c1⟩ := H2.out.one (Below.refl _ _) (map_get hy)
      have hs : sameTo l m (k + 1) = sameTo l m k + if x = y then 1 else 0 := by rw [sameTo, hx, hy]; rfl
      have hb := sameTo_le l m k
      have HS := Lib.hid hs
      generalize sameTo l m k = c at *
      subst ha ha2
      clear hx hy hs
      by_cases hxy : x = y
      · subst hxy
        have t2 : (x == x) = true := by simp
        rw [if_pos rfl] at HS
        go_wp2_with fail
        go_roundg (len - (k + 1))
        case measure => have := HJ.out; omega
        case rel => exact ⟨rfl, k + 1, by omega, by go_num, by rw [HS.out]; go_num⟩
      · have t2 : (x == y) = false := by simpa using hxy
        rw [if_neg hxy] at HS
        clear hxy
        go_wp2_with fail
        go_roundg (len - (k + 1))
        case measure => have := HJ.out; omega
        case rel => exact ⟨rfl, k + 1, by omega, by go_num, by rw [HS.out]; rfl⟩
    · obtain rfl : k = len := by omega
      rw [HR.out]
      go_wp2
      go_ret2
      exact ⟨rfl, rfl⟩
end Go.Proofs.Ytoijeafhohcbdaa
