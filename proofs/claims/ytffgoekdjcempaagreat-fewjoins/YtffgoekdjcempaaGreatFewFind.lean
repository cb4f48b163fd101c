/- The contract of the program's few.find (slices.BinarySearchFunc on counters whose keys rise). -/
import Derived.Test.YtffgoekdjcempaaGreatFewBox
import Derived.Test.YtffgoekdjcempaaGreatShelf
import Derived.WalkKit
namespace Go.Proofs.YtffgoekdjcempaaGreat
open Go.ChangeShapes Go.WideShapes Go.ChangeAt Go.RowKit
open Few

set_option maxRecDepth 100000 in
theorem fewCmp_any (k n key : Int) (w : World) : Calls Tryz.prog 37 #[.agg #[.int .i64 k, .int .i64 n], .int .i64 key] w fun e w' => e = .returned (.int .i64 (Lib.compareInt k key)) ∧ Below w.heap.size w w' := by
  have HC := Lib.hid (fun W => cmp_Compare_int k key W)
  have HB := Lib.hid (show Below w.heap.size w (w.alloc (.cells #[.int .i64 k, .int .i64 n] 37)) from (Below.refl _ _).alloc (Nat.le_refl _) _)
  generalize Lib.compareInt k key = z at *
  go_enter Tryz.func37, Tryz.ntmps37
  go_wp2_with fail
  refine (HC.out _).mono ?_
  rintro e w1 ⟨rfl, hw⟩
  rw [hw]
  clear hw
  go_wp2
  go_ret
  exact ⟨rfl, HB.out⟩

namespace Few
theorem cmp_neg (a b : Int) : Lib.compareInt a b < 0 ↔ a < b := by
  unfold Lib.compareInt; split
  · simp; omega
  · split <;> simp <;> omega
theorem cmp_zero (a b : Int) : Lib.compareInt a b = 0 ↔ a = b := by
  unfold Lib.compareInt; split
  · simp; omega
  · split <;> simp <;> omega
/-- where a key stands, or would stand -/
structure At (C : List (Int × Int)) (key : Int) (i : Nat) (f : Bool) : Prop where
  le : i ≤ C.length
  lo : ∀ j d, j < i → C[j]? = some d → d.1 < key
  yes : f = true → ∃ m, C[i]? = some (key, m)
  no : f = false → ∀ d, C[i]? = some d → key < d.1
theorem at_lt {C : List (Int × Int)} (h : C.Pairwise (fun a b => a.1 < b.1)) {i j : Nat} {c d : Int × Int} (hi : C[i]? = some c) (hj : C[j]? = some d) (hij : i < j) : c.1 < d.1 := by
  obtain ⟨h1, rfl⟩ := List.getElem?_eq_some_iff.1 hi
  obtain ⟨h2, rfl⟩ := List.getElem?_eq_some_iff.1 hj
  exact List.pairwise_iff_getElem.1 h _ _ h1 h2 hij
end Few

set_option maxRecDepth 100000 in
set_option maxHeartbeats 2000000 in
theorem search_any (a : Option Addr) (len cap : Nat) (C : List (Int × Int)) (key : Int) (w : World) (h : Tab w a len cap 2 (C.map iiC)) (ho : C.Pairwise (fun a b => a.1 < b.1)) (hl32 : len ≤ 100000) :
    Calls Tryz.prog 39 #[.slice a len cap, .int .i64 key, .func (.func 37) #[] #[]] w fun e w' => ∃ (i : Nat) (f : Bool), e = .returned (.tuple #[.int .i64 i, .bool f]) ∧ At C key i f ∧ Below w.heap.size w w' := by
  have hl := h.hlen
  rw [List.length_map] at hl
  have HT := Lib.hid h
  have HL := Lib.hid hl
  have HO := Lib.hid ho
  have hrun : ∀ (k n : Int) (W : World), (callFunc 37 #[.agg #[.int .i64 k, .int .i64 n], .int .i64 key]).run Tryz.prog W = .ok (.enter 37 #[.agg #[.int .i64 k, .int .i64 n], .int .i64 key]) W := fun _ _ _ => rfl
  clear h hl ho
  go_enter Tryz.func39, Tryz.ntmps39
  go_wp2_with fail
  go_loopg [9, 10] len (fun g i j wr => ∃ (p q : Nat), q - p ≤ g ∧ p ≤ q ∧ q ≤ len ∧ i = .int .i64 p ∧ j = .int .i64 q ∧ Hid (∀ j d, j < p → C[j]? = some d → d.1 < key) ∧ Hid (∀ j d, q ≤ j → C[j]? = some d → key ≤ d.1) ∧ Hid (Below w.heap.size w wr))
  case atStart => exact ⟨0, len, by omega, by omega, by omega, rfl, rfl, Lib.hid (fun j d hj => by omega), Lib.hid (fun j d hj hd => by have := (List.getElem?_eq_some_iff.1 hd).1; rw [HL.out] at this; omega), Lib.hid (Below.refl _ _)⟩
  case round =>
    obtain ⟨p, q, hg, hpq, hq, rfl, rfl, HLo, HHi, HB⟩ := hrel
    have HG := Lib.hid hg
    clear hg
    by_cases hlt : p < q
    · obtain ⟨m, hm⟩ : ∃ m, (p + q) / 2 = m := ⟨_, rfl⟩
      have hm1 : p ≤ m := by omega
      have hm2 : m < q := by omega
      have hmI : ((p : Int) + (q : Int)) / 2 = (m : Int) := by omega
      obtain ⟨⟨k, n⟩, hx⟩ : ∃ x, C[m]? = some x := ⟨_, List.getElem?_eq_getElem (by rw [HL.out]; omega)⟩
      obtain ⟨b1, o1, ha, hbs, d0, d1⟩ := HT.out.two HB.out (map_get hx)
      have HX := Lib.hid hx
      have HC := Lib.hid (fun W => fewCmp_any k n key W)
      have HZ := Lib.hid (cmp_neg k key)
      generalize Lib.compareInt k key = z at *
      subst ha
      clear hx hm
      go_wp2_with fail
      refine (HC.out _).mono ?_
      rintro e w1 ⟨rfl, hb⟩
      have HB1 := Lib.hid (below_on HB.out hb)
      clear hb d0 d1
      by_cases hz : z < 0
      · have hkk : k < key := HZ.out.1 hz
        have HLo' : Hid (∀ j d, j < m + 1 → C[j]? = some d → d.1 < key) := Lib.hid (fun j d hj hd => by
          by_cases hjm : j = m
          · subst hjm
            rw [HX.out, Option.some.injEq] at hd
            rw [← hd]; exact hkk
          · have := at_lt HO.out hd HX.out (by omega)
            exact Int.lt_trans this hkk)
        clear hkk
        go_wp2_with fail
        go_roundg (q - (m + 1))
        case measure => have := HG.out; omega
        case rel => exact ⟨m + 1, q, by omega, by omega, hq, by go_num, rfl, HLo', HHi, HB1⟩
      · have hkk : key ≤ k := by
          rcases Int.lt_or_le k key with h | h
          · exact absurd (HZ.out.2 h) hz
          · exact h
        have HHi' : Hid (∀ j d, m ≤ j → C[j]? = some d → key ≤ d.1) := Lib.hid (fun j d hj hd => by
          by_cases hjm : j = m
          · subst hjm
            rw [HX.out, Option.some.injEq] at hd
            rw [← hd]; exact hkk
          · have := at_lt HO.out HX.out hd (by omega)
            simp only at this
            omega)
        clear hkk
        go_wp2_with fail
        go_roundg (m - p)
        case measure => have := HG.out; omega
        case rel => exact ⟨p, m, by omega, by omega, by omega, rfl, by go_num, HLo, HHi', HB1⟩
    · obtain rfl : p = q := by omega
      by_cases hpl : p < len
      · obtain ⟨⟨k, n⟩, hx⟩ : ∃ x, C[p]? = some x := ⟨_, List.getElem?_eq_getElem (by rw [HL.out]; omega)⟩
        obtain ⟨b1, o1, ha, hbs, d0, d1⟩ := HT.out.two HB.out (map_get hx)
        have HX := Lib.hid hx
        have HC := Lib.hid (fun W => fewCmp_any k n key W)
        have HZ := Lib.hid (cmp_zero k key)
        have hpk := HHi.out p _ (Nat.le_refl _) hx
        simp only at hpk
        have HPK := Lib.hid hpk
        generalize Lib.compareInt k key = z at *
        subst ha
        clear hx hpk
        by_cases hz : z = 0
        · have hkk : k = key := HZ.out.1 hz
          subst hz
          have HA : Hid (At C key p true) := Lib.hid ⟨by rw [HL.out]; omega, HLo.out, fun _ => ⟨n, by rw [HX.out, hkk]⟩, fun h => by cases h⟩
          clear hkk
          go_wp2_with fail
          refine (HC.out _).mono ?_
          rintro e w1 ⟨rfl, hb⟩
          have HB1 := Lib.hid (below_on HB.out hb)
          clear hb d0 d1
          go_wp2
          go_ret2
          exact ⟨p, true, rfl, HA.out, HB1.out⟩
        · have hkk : k ≠ key := fun h => hz (HZ.out.2 h)
          have tz : (z == 0) = false := by simpa using hz
          have HA : Hid (At C key p false) := Lib.hid ⟨by rw [HL.out]; omega, HLo.out, fun h => (by cases h), fun _ d hd => by
            rw [HX.out, Option.some.injEq] at hd
            rw [← hd]
            have := HPK.out
            simp only
            omega⟩
          clear hkk hz
          go_wp2_with fail
          refine (HC.out _).mono ?_
          rintro e w1 ⟨rfl, hb⟩
          have HB1 := Lib.hid (below_on HB.out hb)
          clear hb d0 d1
          go_wp2
          go_ret2
          exact ⟨p, false, rfl, HA.out, HB1.out⟩
      · obtain rfl : p = len := by omega
        have HA : Hid (At C key p false) := Lib.hid ⟨by rw [HL.out]; exact Nat.le_refl _, HLo.out, fun h => (by cases h), fun _ d hd => by
          have := (List.getElem?_eq_some_iff.1 hd).1
          rw [HL.out] at this
          omega⟩
        have HBB := HB
        go_wp2
        go_ret2
        exact ⟨p, false, rfl, HA.out, HBB.out⟩

set_option maxRecDepth 100000 in
set_option maxHeartbeats 1000000 in
theorem find_any (a : Option Addr) (len cap : Nat) (C : List (Int × Int)) (key : Int) (w : World) (h : Tab w a len cap 2 (C.map iiC)) (ho : C.Pairwise (fun a b => a.1 < b.1)) (hl32 : len ≤ 100000) :
    Calls Tryz.prog 20 #[.slice a len cap, .int .i64 key] w fun e w' => ∃ (i : Nat) (f : Bool), e = .returned (.tuple #[.int .i64 i, .bool f]) ∧ At C key i f ∧ Below w.heap.size w w' := by
  have HS := Lib.hid (search_any a len cap C key w h ho hl32)
  clear h ho hl32
  go_enter Tryz.func20, Tryz.ntmps20
  go_wp2_with fail
  refine HS.out.mono ?_
  rintro e w1 ⟨i, f, rfl, hA, hb⟩
  have HA := Lib.hid hA
  have HB := Lib.hid hb
  clear hA hb
  go_wp2
  go_ret2
  exact ⟨i, f, rfl, HA.out, HB.out⟩
end Go.Proofs.YtffgoekdjcempaaGreat
