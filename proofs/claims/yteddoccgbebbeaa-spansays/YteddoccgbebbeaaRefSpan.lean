/- The contracts of the document's own answers on traces (culref.Spans, Under, Draw). -/
import Derived.Test.YteddoccgbebbeaaSpanMath
import Derived.Test.YteddoccgbebbeaaRefWithin
import Derived.Test.YteddoccgbebbeaaRefLevel
import Derived.Test.YteddoccgbebbeaaShapes
import Derived.WalkKit
import Derived.Deep.LoopGhost
namespace Go.Proofs.Yteddoccgbebbeaa
open Go.ChangeShapes Go.WideShapes Go.ChangeAt Go.RowKit
open Span

set_option maxHeartbeats 400000 in
theorem refDraw_any (r : Int) (w : World) :
    Calls Try.prog 30 #[.int .i64 r] w fun e w' => e = .returned (.bool (decide (0 ≤ r) && decide (r ≤ 72057594037927935))) ∧ w = w' := by
  have H := Lib.hid (within_ref r 0 72057594037927935 w)
  generalize (decide (0 ≤ r) && decide (r ≤ 72057594037927935)) = c at *
  go_enter Try.func30, Try.ntmps30
  go_wp2_with fail
  refine H.out.mono ?_
  rintro e w1 ⟨rfl, rfl⟩
  go_wp2
  go_ret
  exact ⟨rfl, rfl⟩

set_option maxRecDepth 100000 in
set_option maxHeartbeats 1000000 in
theorem refSpans_any (a : Option Addr) (len cap : Nat) (l : List (Int × Int)) (w : World) (h : Tab w a len cap 2 (l.map iiC)) :
    Calls Try.prog 25 #[.slice a len cap] w fun e w' => e = .returned (.int .i64 (spansE l)) ∧ Below w.heap.size w w' := by
  have hl := h.hlen
  have hm := h.hmax
  have hle := h.hle
  rw [List.length_map] at hl
  unfold maxLen at hm
  have HT := Lib.hid h
  have HL := Lib.hid hl
  clear h
  by_cases c1 : 40 < len
  · rw [show spansE l = 2 from if_pos (by omega)]
    clear hl
    go_enter Try.func25, Try.ntmps25
    go_wp2
    go_ret
    exact ⟨rfl, Below.refl _ _⟩
  have c1' : len ≤ 40 := by omega
  have hE : spansE l = if okFrom l 0 len = true then 0 else 1 := by unfold spansE; rw [if_neg (by omega), hl]
  obtain ⟨B, hB⟩ : ∃ B, okFrom l 0 len = B := ⟨_, rfl⟩
  rw [hB] at hE
  rw [hE]
  have HB := Lib.hid hB
  clear hl c1 hE hB
  obtain ⟨E, hEE⟩ : ∃ E : Int, (if B = true then 0 else 1) = E := ⟨_, rfl⟩
  rw [hEE]
  have HE := Lib.hid hEE
  clear hEE
  go_enter Try.func25, Try.ntmps25
  go_wp2_with fail
  go_loopg [10] len (fun g i wr => ∃ k : Nat, k + g = len ∧ i = .int .i64 k ∧ Hid (okFrom l k g = B) ∧ Hid (Below w.heap.size w wr))
  case atStart => exact ⟨0, by omega, rfl, HB, Lib.hid (Below.refl _ _)⟩
  case round =>
    clear HB
    obtain ⟨k, hk0, rfl, HB, HW⟩ := hrel
    have HJ := Lib.hid hk0
    have hk : k ≤ len := by omega
    by_cases hlt : k < len
    · obtain ⟨⟨u, v⟩, hx⟩ : ∃ x, l[k]? = some x := ⟨_, List.getElem?_eq_getElem (by rw [HL.out]; exact hlt)⟩
      obtain ⟨b1, o1, ha, hbs, c0, c2⟩ := HT.out.two HW.out (map_get hx)
      obtain ⟨g', rfl⟩ : ∃ g', gk = g' + 1 := ⟨gk - 1, by omega⟩
      have hzz := okFrom_succ (n := g') hx
      rw [HB.out, show okS k (u, v) = ((decide (-1 ≤ u) && decide (u ≤ (k : Int) - 1)) && (decide (0 ≤ v) && decide (v ≤ 20))) from by
        unfold okS
        rw [show decide ((u, v).1 < (k : Int)) = decide (u ≤ (k : Int) - 1) from by rw [decide_eq_decide]; simp only; omega, Bool.and_assoc]] at hzz
      have HB2 := Lib.hid (HW.out.alloc HW.out.size (.cells #[.int .i64 u, .int .i64 v] 44))
      have HW1 := Lib.hid (fun W => within_ref u (-1) ((k : Int) - 1) W)
      have HW2 := Lib.hid (fun W => within_ref v 0 20 W)
      have HZ := Lib.hid hzz
      clear hzz
      subst ha
      clear hx hk0
      generalize (decide (-1 ≤ u) && decide (u ≤ (k : Int) - 1)) = p at *
      generalize (decide (0 ≤ v) && decide (v ≤ 20)) = q at *
      cases p
      · obtain rfl : B = false := HZ.out
        obtain rfl : E = 1 := by have := HE.out; rw [if_neg (by decide)] at this; exact this.symm
        clear HZ HE HB
        go_wp2_with fail
        refine (HW1.out _).mono ?_
        rintro e w1 ⟨rfl, rfl⟩
        go_wp2
        go_ret
        exact ⟨rfl, HB2.out⟩
      · cases q
        · obtain rfl : B = false := HZ.out
          obtain rfl : E = 1 := by have := HE.out; rw [if_neg (by decide)] at this; exact this.symm
          clear HZ HE HB
          go_wp2_with fail
          refine (HW1.out _).mono ?_
          rintro e w1 ⟨rfl, rfl⟩
          go_wp2_with fail
          refine (HW2.out _).mono ?_
          rintro e w1 ⟨rfl, rfl⟩
          go_wp2
          go_ret
          exact ⟨rfl, HB2.out⟩
        · rw [Bool.and_self, Bool.true_and] at HZ
          go_wp2_with fail
          refine (HW1.out _).mono ?_
          rintro e w1 ⟨rfl, rfl⟩
          go_wp2_with fail
          refine (HW2.out _).mono ?_
          rintro e w1 ⟨rfl, rfl⟩
          go_wp2_with fail
          go_roundg g'
          case measure => omega
          case rel => exact ⟨k + 1, by have := HJ.out; omega, by go_num, Lib.hid HZ.out.symm, HB2⟩
    · obtain rfl : k = len := by omega
      obtain rfl : gk = 0 := by omega
      obtain rfl : B = true := HB.out.symm
      obtain rfl : E = 0 := by have := HE.out; rw [if_pos rfl] at this; exact this.symm
      go_wp2
      go_ret
      exact ⟨rfl, HW.out⟩

/-- from a place that is not k the way leads up, or ends -/
theorem under_up {l : List (Int × Int)} {i k : Nat} {u v : Int} (hx : l[i]? = some (u, v)) (hne : i ≠ k) (hu : -1 ≤ u) : Under l i k ↔ ∃ j : Nat, u = (j : Int) ∧ Under l j k := by
  constructor
  · intro h
    cases h with
    | self => exact absurd rfl hne
    | up h1 h2 h3 =>
      rw [hx, Option.some.injEq] at h1
      subst h1
      exact ⟨_, h2, h3⟩
  · rintro ⟨j, rfl, h⟩
    exact .up hx rfl h

set_option maxRecDepth 100000 in
set_option maxHeartbeats 1000000 in
theorem under_any (a : Option Addr) (len cap : Nat) (l : List (Int × Int)) (i k : Nat) (w : World) (h : Tab w a len cap 2 (l.map iiC)) (hz : ∀ (i : Nat) (s : Int × Int), l[i]? = some s → -1 ≤ s.1 ∧ s.1 < (i : Int)) (h40 : len ≤ 40) (hi : i < len) (c : Bool) (hc : c = true ↔ Under l i k) :
    Calls Try.prog 28 #[.slice a len cap, .int .i64 i, .int .i64 k] w fun e w' => e = .returned (.bool c) ∧ w = w' := by
  have hl := h.hlen
  rw [List.length_map] at hl
  have HT := Lib.hid h
  have HL := Lib.hid hl
  have HZ := Lib.hid hz
  have HC := Lib.hid hc
  clear h hl hz hc
  go_enter Try.func28, Try.ntmps28
  go_wp2_with fail
  go_loopg [1] (i + 1) (fun g t wr => ∃ n : Int, n + 1 ≤ (g : Int) ∧ t = .int .i64 n ∧ -1 ≤ n ∧ n < (len : Int) ∧ Hid (c = true ↔ ∃ j : Nat, n = (j : Int) ∧ Under l j k) ∧ wr = w)
  case atStart => exact ⟨i, by omega, rfl, by omega, by omega, Lib.hid (HC.out.trans ⟨fun h => ⟨i, rfl, h⟩, fun ⟨j, e, h⟩ => by rw [show i = j by omega]; exact h⟩), rfl⟩
  case round =>
    obtain ⟨n, hn0, rfl, hn1, hn2, HN, rfl⟩ := hrel
    by_cases hneg : n < 0
    · obtain rfl : c = false := by
        cases c
        · rfl
        · obtain ⟨j, e, _⟩ := HN.out.1 rfl
          omega
      clear hn0
      go_wp2
      go_ret
      exact ⟨rfl, rfl⟩
    · obtain ⟨j, rfl⟩ := Int.eq_ofNat_of_zero_le (show 0 ≤ n by omega)
      have hjg : j + 1 ≤ gk := by omega
      have hjl : j < len := by omega
      clear hneg hn0 hn1 hn2
      obtain ⟨⟨u, v⟩, hx⟩ : ∃ x, l[j]? = some x := ⟨_, List.getElem?_eq_getElem (by rw [HL.out]; exact hjl)⟩
      obtain ⟨b1, o1, ha, hbs, c0, c2⟩ := HT.out.two (Below.refl _ _) (map_get hx)
      have hz := HZ.out j _ hx
      simp only at hz
      obtain ⟨z1, z2⟩ := hz
      have HX := Lib.hid hx
      subst ha
      clear hx
      by_cases hjk : j = k
      · subst hjk
        obtain rfl : c = true := HN.out.2 ⟨j, rfl, .self j⟩
        have t : ((j : Int) == (j : Int)) = true := by simp
        go_wp2
        go_ret
        exact ⟨rfl, rfl⟩
      · have t : ((j : Int) == (k : Int)) = false := by rw [beq_eq_false_iff_ne]; omega
        have HN2 : Hid (c = true ↔ ∃ i : Nat, u = (i : Int) ∧ Under l i k) := Lib.hid (HN.out.trans ⟨fun ⟨j', e, h⟩ => by
            obtain rfl : j = j' := by omega
            exact (under_up HX.out hjk z1).1 h, fun h => ⟨j, rfl, (under_up HX.out hjk z1).2 h⟩⟩)
        clear hjk
        go_wp2_with fail
        go_roundg j
        case measure => omega
        case rel => exact ⟨u, by omega, rfl, z1, by omega, HN2, rfl⟩
end Go.Proofs.Yteddoccgbebbeaa
