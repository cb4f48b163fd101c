/- The contracts of the program's tests of registers (regs.Check, regs.checkPair). -/
import Derived.Test.YtffgoekdjcempabRegsMath
import Derived.Test.YtffgoekdjcempabGr15
import Derived.WalkKit
namespace Go.Proofs.Ytffgoekdjcempab
open Go.ChangeShapes Go.WideShapes Go.ChangeAt Go.RowKit
open Regs

namespace Regs
/-- what is wrong with two lists that are to be compared -/
def pairE (a b : List Int) : Int := if regE a ≠ 0 then regE a else if regE b ≠ 0 then regE b else if a.length ≠ b.length then 3 else 0
theorem pairE_zero {a b : List Int} : pairE a b = 0 ↔ regE a = 0 ∧ regE b = 0 ∧ a.length = b.length := by
  unfold pairE
  split
  · rename_i h; constructor
    · intro h2; exact absurd h2 h
    · rintro ⟨h2, _⟩; exact absurd h2 h
  split
  · rename_i h; constructor
    · intro h2; exact absurd h2 h
    · rintro ⟨_, h2, _⟩; exact absurd h2 h
  split
  · rename_i h; constructor
    · intro h2; cases h2
    · rintro ⟨_, _, h2⟩; exact absurd h2 h
  · rename_i h1 h2 h3
    constructor
    · intro _; omega
    · intro _; rfl
end Regs

set_option maxRecDepth 100000 in
theorem regsOut_any (n : Int) (w : World) : Calls Try.prog 86 #[.int .i64 n] w fun e w' => e = .returned (.bool (badR n)) ∧ w' = w := by
  unfold badR
  by_cases h1 : n < 0
  · have t : decide (n < 0) = true := decide_eq_true h1
    rw [t, Bool.true_or]
    go_enter Try.func86, Try.ntmps86
    go_wp2
    go_ret
    exact ⟨rfl, rfl⟩
  · have t : decide (n < 0) = false := decide_eq_false h1
    rw [t, Bool.false_or]
    have h1' : 0 ≤ n := by omega
    clear h1
    go_enter Try.func86, Try.ntmps86
    go_wp2
    go_ret
    exact ⟨rfl, rfl⟩

set_option maxRecDepth 100000 in
set_option maxHeartbeats 2000000 in
theorem regsCheck_any (a : Option Addr) (len cap : Nat) (l : List Int) (w : World) (h : Tab w a len cap 1 (l.map iC)) :
    Calls Try.prog 66 #[.slice a len cap] w fun e w' => e = .returned (.int .i64 (regE l)) ∧ Below w.heap.size w w' := by
  have hl := h.hlen
  rw [List.length_map] at hl
  have hm := h.hmax
  have hle := h.hle
  unfold maxLen at hm
  have HC := Lib.hid (containsFunc0_any 86 badR a len cap l w h (fun _ _ => rfl) (fun x _ W _ => (regsOut_any x W).mono (by rintro e w' ⟨rfl, rfl⟩; exact ⟨rfl, Below.refl _ _⟩)))
  unfold regE
  rw [hl]
  clear h hl
  cases hR : lenR len
  · rw [if_neg (by decide)]
    unfold lenR at hR
    simp only [Bool.or_eq_false_iff, beq_eq_false_iff_ne] at hR
    obtain ⟨⟨⟨⟨n1, n2⟩, n4⟩, n8⟩, n16⟩ := hR
    have t1 : ((len : Int) == 1) = false := by simp; omega
    have t2 : ((len : Int) == 2) = false := by simp; omega
    have t4 : ((len : Int) == 4) = false := by simp; omega
    have t8 : ((len : Int) == 8) = false := by simp; omega
    have t16 : ((len : Int) == 16) = false := by simp; omega
    clear HC n1 n2 n4 n8 n16
    go_enter Try.func66, Try.ntmps66
    go_wp2
    go_ret
    exact ⟨rfl, Below.refl _ _⟩
  · rw [if_pos rfl]
    have hR2 : len = 1 ∨ len = 2 ∨ len = 4 ∨ len = 8 ∨ len = 16 := by
      unfold lenR at hR
      simp only [Bool.or_eq_true, beq_iff_eq] at hR
      omega
    clear hR
    cases hany : l.any badR
    · rw [hany] at HC
      rw [if_neg (by decide)]
      clear hany
      rcases hR2 with rfl | rfl | rfl | rfl | rfl
      all_goals
        go_enter Try.func66, Try.ntmps66
        go_wp2_with fail
        refine HC.out.mono ?_
        rintro e w1 ⟨rfl, hb⟩
        have HB := Lib.hid hb
        clear hb
        go_wp2
        go_ret
        exact ⟨rfl, HB.out⟩
    · rw [hany] at HC
      rw [if_pos rfl]
      clear hany
      rcases hR2 with rfl | rfl | rfl | rfl | rfl
      all_goals
        go_enter Try.func66, Try.ntmps66
        go_wp2_with fail
        refine HC.out.mono ?_
        rintro e w1 ⟨rfl, hb⟩
        have HB := Lib.hid hb
        clear hb
        go_wp2
        go_ret
        exact ⟨rfl, HB.out⟩

set_option maxRecDepth 100000 in
set_option maxHeartbeats 2000000 in
theorem checkPair_any (a b : Option Addr) (la ca lb cb : Nat) (l m : List Int) (w : World) (h : Tab w a la ca 1 (l.map iC)) (g : Tab w b lb cb 1 (m.map iC)) :
    Calls Try.prog 68 #[.slice a la ca, .slice b lb cb] w fun e w' => e = .returned (.int .i64 (pairE l m)) ∧ Below w.heap.size w w' := by
  have hl := h.hlen
  rw [List.length_map] at hl
  have hg := g.hlen
  rw [List.length_map] at hg
  have hm := h.hmax
  have hle := h.hle
  unfold maxLen at hm
  have gm := g.hmax
  have gle := g.hle
  unfold maxLen at gm
  have H1 := Lib.hid (regsCheck_any a la ca l w h)
  have H2 := Lib.hid (fun W (hb : Below w.heap.size w W) => regsCheck_any b lb cb m W (g.below hb))
  unfold pairE
  rw [hl, hg]
  clear h g hl hg
  generalize regE l = E at *
  generalize regE m = F at *
  by_cases e1 : E ≠ 0
  · rw [if_pos e1]
    have t : (E != 0) = true := by simpa using e1
    clear e1 H2
    go_enter Try.func68, Try.ntmps68
    go_wp2_with fail
    refine H1.out.mono ?_
    rintro e w1 ⟨rfl, hb⟩
    have HB := Lib.hid hb
    clear hb
    go_wp2
    go_ret
    exact ⟨rfl, HB.out⟩
  · rw [if_neg e1]
    obtain rfl : E = 0 := by omega
    clear e1
    by_cases e2 : F ≠ 0
    · rw [if_pos e2]
      have t : (F != 0) = true := by simpa using e2
      clear e2
      go_enter Try.func68, Try.ntmps68
      go_wp2_with fail
      refine H1.out.mono ?_
      rintro e w1 ⟨rfl, hb⟩
      have HB := Lib.hid hb
      have H3 := Lib.hid (H2.out w1 hb)
      clear hb
      go_wp2_with fail
      refine H3.out.mono ?_
      rintro e w2 ⟨rfl, hb⟩
      have HB2 := Lib.hid (below_on HB.out hb)
      clear hb
      go_wp2
      go_ret
      exact ⟨rfl, HB2.out⟩
    · rw [if_neg e2]
      obtain rfl : F = 0 := by omega
      clear e2
      by_cases e3 : la ≠ lb
      · rw [if_pos e3]
        have t : ((la : Int) != (lb : Int)) = true := by simp; omega
        clear e3
        go_enter Try.func68, Try.ntmps68
        go_wp2_with fail
        refine H1.out.mono ?_
        rintro e w1 ⟨rfl, hb⟩
        have HB := Lib.hid hb
        have H3 := Lib.hid (H2.out w1 hb)
        clear hb
        go_wp2_with fail
        refine H3.out.mono ?_
        rintro e w2 ⟨rfl, hb⟩
        have HB2 := Lib.hid (below_on HB.out hb)
        clear hb
        go_wp2
        go_ret
        exact ⟨rfl, HB2.out⟩
      · rw [if_neg e3]
        obtain rfl : la = lb := by omega
        have t : ((la : Int) != (la : Int)) = false := by simp
        clear e3
        go_enter Try.func68, Try.ntmps68
        go_wp2_with fail
        refine H1.out.mono ?_
        rintro e w1 ⟨rfl, hb⟩
        have HB := Lib.hid hb
        have H3 := Lib.hid (H2.out w1 hb)
        clear hb
        go_wp2_with fail
        refine H3.out.mono ?_
        rintro e w2 ⟨rfl, hb⟩
        have HB2 := Lib.hid (below_on HB.out hb)
        clear hb
        go_wp2
        go_ret
        exact ⟨rfl, HB2.out⟩
end Go.Proofs.Ytffgoekdjcempab
