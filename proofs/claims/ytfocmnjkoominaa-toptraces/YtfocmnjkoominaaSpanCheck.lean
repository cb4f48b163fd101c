/- The contracts of the program's span.Check and span.checkKept. -/
import Derived.Test.YtfocmnjkoominaaSpanMath
import Derived.Test.YtfocmnjkoominaaShapes
import Derived.WalkKit
import Derived.Deep.LoopGhost
namespace Go.Proofs.Ytfocmnjkoominaa
open Go.ChangeShapes Go.WideShapes Go.ChangeAt Go.RowKit
open Span

set_option maxRecDepth 100000 in
set_option maxHeartbeats 1000000 in
theorem spanCheck_any (a : Option Addr) (len cap : Nat) (l : List (Int × Int)) (w : World) (h : Tab w a len cap 2 (l.map iiC)) :
    Calls Try.prog 54 #[.slice a len cap] w fun e w' => e = .returned (.int .i64 (spansE l)) ∧ Below w.heap.size w w' := by
  have hl := h.hlen
  have hm := h.hmax
  have hle := h.hle
  rw [List.length_map] at hl
  unfold maxLen at hm
  have HT := Lib.hid h
  have HL := Lib.hid hl
  clear h
  by_cases c1 : 40 < len
  · rw [show spansE l = 2 from if_pos (by omega)]
    clear hl
    go_enter Try.func54, Try.ntmps54
    go_wp2
    go_ret
    exact ⟨rfl, Below.refl _ _⟩
  have c1' : len ≤ 40 := by omega
  have hE : spansE l = if okFrom l 0 len = true then 0 else 1 := by unfold spansE; rw [if_neg (by omega), hl]
  obtain ⟨B, hB⟩ : ∃ B, okFrom l 0 len = B := ⟨_, rfl⟩
  rw [hB] at hE
  rw [hE]
  have HB := Lib.hid hB
  clear hl c1 hE hB
  obtain ⟨E, hEE⟩ : ∃ E : Int, (if B = true then 0 else 1) = E := ⟨_, rfl⟩
  rw [hEE]
  have HE := Lib.hid hEE
  clear hEE
  go_enter Try.func54, Try.ntmps54
  go_wp2_with fail
  go_loopg [10] len (fun g i wr => ∃ k : Nat, k + g = len ∧ i = .int .i64 k ∧ Hid (okFrom l k g = B) ∧ Hid (Below w.heap.size w wr))
  case atStart => exact ⟨0, by omega, rfl, HB, Lib.hid (Below.refl _ _)⟩
  case round =>
    clear HB
    obtain ⟨k, hk0, rfl, HB, HW⟩ := hrel
    have HJ := Lib.hid hk0
    have hk : k ≤ len := by omega
    by_cases hlt : k < len
    · obtain ⟨⟨u, v⟩, hx⟩ : ∃ x, l[k]? = some x := ⟨_, List.getElem?_eq_getElem (by rw [HL.out]; exact hlt)⟩
      obtain ⟨b1, o1, ha, hbs, c0, c2⟩ := HT.out.two HW.out (map_get hx)
      obtain ⟨g', rfl⟩ : ∃ g', gk = g' + 1 := ⟨gk - 1, by omega⟩
      have HZ := Lib.hid (okFrom_succ (n := g') hx)
      rw [HB.out] at HZ
      have HB2 := Lib.hid (HW.out.alloc HW.out.size (.cells #[.int .i64 u, .int .i64 v] 54))
      subst ha
      clear hx hk0
      by_cases hok : okS k (u, v) = true
      · rw [hok, Bool.true_and] at HZ
        obtain ⟨q1, q2, q3, q4⟩ := okS_iff.1 hok
        simp only at q1 q2 q3 q4
        clear hok
        go_wp2_with fail
        go_roundg g'
        case measure => omega
        case rel => exact ⟨k + 1, by have := HJ.out; omega, by go_num, Lib.hid HZ.out.symm, HB2⟩
      · have hok' : okS k (u, v) = false := by simpa using hok
        rw [hok', Bool.false_and] at HZ
        obtain rfl : B = false := HZ.out
        obtain rfl : E = 1 := by have := HE.out; rw [if_neg (by decide)] at this; exact this.symm
        have hq : ¬ (-1 ≤ u ∧ u < (k : Int) ∧ 0 ≤ v ∧ v ≤ 20) := fun hh => hok (okS_iff.2 hh)
        clear hok hok' HE
        by_cases q1 : u < -1
        · clear hq
          go_wp2
          go_ret
          exact ⟨rfl, HB2.out⟩
        by_cases q2 : (k : Int) ≤ u
        · have q1' : -1 ≤ u := by omega
          clear hq q1
          go_wp2
          go_ret
          exact ⟨rfl, HB2.out⟩
        by_cases q3 : v < 0
        · have q1' : -1 ≤ u := by omega
          have q2' : u < (k : Int) := by omega
          clear hq q1 q2
          go_wp2
          go_ret
          exact ⟨rfl, HB2.out⟩
        have q1' : -1 ≤ u := by omega
        have q2' : u < (k : Int) := by omega
        have q3' : 0 ≤ v := by omega
        have q4 : 20 < v := by omega
        clear hq q1 q2 q3
        go_wp2
        go_ret
        exact ⟨rfl, HB2.out⟩
    · obtain rfl : k = len := by omega
      obtain rfl : gk = 0 := by omega
      obtain rfl : B = true := HB.out.symm
      obtain rfl : E = 0 := by have := HE.out; rw [if_pos rfl] at this; exact this.symm
      go_wp2
      go_ret
      exact ⟨rfl, HW.out⟩

/-- what is wrong with a trace and what is kept of it -/
def keptE (l : List (Int × Int)) (n : Nat) : Int := if spansE l = 0 then (if n = l.length then 0 else 7) else spansE l
set_option maxHeartbeats 400000 in
theorem checkKept_any (a c : Option Addr) (len cap m cap' : Nat) (l : List (Int × Int)) (w : World) (h : Tab w a len cap 2 (l.map iiC)) :
    Calls Try.prog 55 #[.slice a len cap, .slice c m cap'] w fun e w' => e = .returned (.int .i64 (keptE l m)) ∧ Below w.heap.size w w' := by
  have hl := h.hlen
  rw [List.length_map] at hl
  have HC := Lib.hid (spanCheck_any a len cap l w h)
  have HK : Hid (keptE l m = if spansE l = 0 then (if m = len then 0 else 7) else spansE l) := Lib.hid (by unfold keptE; rw [hl])
  clear h hl
  generalize spansE l = E at *
  generalize keptE l m = K at *
  by_cases hE : E = 0
  · subst hE
    rw [if_pos rfl] at HK
    by_cases hm : m = len
    · subst hm
      rw [if_pos rfl] at HK
      obtain rfl := HK.out
      have t : ((m : Int) != (m : Int)) = false := by simp
      go_enter Try.func55, Try.ntmps55
      go_wp2_with fail
      refine HC.out.mono ?_
      rintro e w1 ⟨rfl, hb⟩
      go_wp2
      go_ret
      exact ⟨rfl, hb⟩
    · rw [if_neg hm] at HK
      obtain rfl := HK.out
      have t : ((m : Int) != (len : Int)) = true := by rw [bne_iff_ne]; omega
      clear hm
      go_enter Try.func55, Try.ntmps55
      go_wp2_with fail
      refine HC.out.mono ?_
      rintro e w1 ⟨rfl, hb⟩
      go_wp2
      go_ret
      exact ⟨rfl, hb⟩
  · rw [if_neg hE] at HK
    obtain rfl := HK.out
    have t : (K != 0) = true := by simpa using hE
    clear hE HK
    go_enter Try.func55, Try.ntmps55
    go_wp2_with fail
    refine HC.out.mono ?_
    rintro e w1 ⟨rfl, hb⟩
    go_wp2
    go_ret
    exact ⟨rfl, hb⟩
end Go.Proofs.Ytfocmnjkoominaa
