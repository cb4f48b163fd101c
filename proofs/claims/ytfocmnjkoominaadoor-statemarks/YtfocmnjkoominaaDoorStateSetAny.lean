/- The contract of the program's state.Set. -/
import Derived.Test.YtfocmnjkoominaaDoorStateSets
namespace Go.Proofs.YtfocmnjkoominaaDoor
open Go.ChangeShapes Go.WideShapes Go.ChangeAt Go.RowKit
open StateMath

set_option maxRecDepth 100000 in
set_option maxHeartbeats 2000000 in
theorem set_any (a : Option Addr) (len cap : Nat) (L : List Pr) (th rv : Int) (ht hr : Bool) (w : World) (h : Tab w a len cap 2 (L.map ssC)) (hok : ∀ p ∈ L, p.1.size ≤ maxLen ∧ p.2.size ≤ maxLen) :
    Calls Tryd.prog 5 #[.slice a len cap, .agg #[.int .i64 th, .int .i64 rv, .bool ht, .bool hr]] w fun e w' =>
      ∃ v, e = .returned (.tuple #[v, .int .i64 (setOf L ⟨th, rv, ht, hr⟩).2]) ∧ Own w' w.heap.size 31 2 v ((setOf L ⟨th, rv, ht, hr⟩).1.map ssC) ∧ Below w.heap.size w w' := by
  have hl := h.hlen
  rw [List.length_map] at hl
  have HT := Lib.hid h
  have hb0 : Below w.heap.size w (w.alloc (.cells (mkC ⟨th, rv, ht, hr⟩) 24)) := (Below.refl _ _).alloc (Nat.le_refl _) _
  have HC := Lib.hid (check_any a len cap L (w.alloc (.cells (mkC ⟨th, rv, ht, hr⟩) 24)) (h.below hb0) hok)
  clear h hok
  by_cases hc : check L = 0
  · rw [hc] at HC
    have h40 : len ≤ 40 := by
      have := ((check_zero_iff L).1 hc).1
      omega
    have HC0 := Lib.hid hc
    have HL := Lib.hid hl
    clear hc hl
    go_enter Tryd.func5, Tryd.ntmps5
    go_wp2_with fail
    refine HC.out.mono ?_
    rintro e w1 ⟨rfl, hb1⟩
    obtain ⟨c0, c1, c2, c3, f0, f1, f2, f3⟩ := four_of (m := ⟨th, rv, ht, hr⟩) (heap_new _ _ _ hb1)
    have HB1 := Lib.hid (below_on hb0 hb1)
    clear hb0 hb1 HC
    cases hm : mkOk ⟨th, rv, ht, hr⟩
    · have HF := Lib.hid (setOf_arg HC0.out hm)
      have HM := Lib.hid (markPairs_bad th rv ht hr w1 hm)
      clear hm
      go_wp2_with fail
      refine HM.out.mono ?_
      rintro e w2 ⟨rfl, hb2⟩
      go_wp2
      go_ret2
      exact ⟨_, by rw [HF.out]; rfl, by rw [HF.out]; exact Own.nil _ _ _ _, below_on HB1.out hb2⟩
    · have HM := Lib.hid (markPairs_ok th rv ht hr w1 hm)
      have HMk := Lib.hid hm
      clear hm
      go_wp2_with fail
      refine HM.out.mono ?_
      rintro e w2 ⟨v2, rfl, hO2, hb2⟩
      have HB2 := Lib.hid (below_on HB1.out hb2)
      have HX := Lib.hid (others_any a len cap L w2 (HT.out.below HB2.out) h40)
      clear c0 c1 c2 c3 f0 f1 f2 f3 HM
      go_wp2_with fail
      refine HX.out.mono ?_
      rintro e w3 ⟨v3, rfl, hO3, hb3⟩
      have HB3 := Lib.hid (below_on HB2.out hb3)
      have hO2' := hO2.below hb3
      obtain ⟨a3, cap3, rfl, hT3⟩ := hO3.tab
      have hs1 := HB1.out.size
      have hs2 := hb2.size
      have hs3 := hb3.size
      have q1 := marks_le ⟨th, rv, ht, hr⟩
      have q2 := others_le L
      rw [HL.out] at q2
      have q3 : ((marksOf ⟨th, rv, ht, hr⟩).map ssC).length = (marksOf ⟨th, rv, ht, hr⟩).length := List.length_map ..
      have q4 : ((othersOf L).map ssC).length = (othersOf L).length := List.length_map ..
      have hrows : ∀ r ∈ (othersOf L).map ssC, r.length = 2 := rows_of ssC_len _
      have hone : ∀ u ∈ ((othersOf L).map ssC).flatten, u.oneCell' = true := one_of ssC_one _
      have HS : Hid ((marksOf ⟨th, rv, ht, hr⟩ ++ othersOf L).length = ((marksOf ⟨th, rv, ht, hr⟩).map ssC ++ (othersOf L).map ssC).length ∧ (marksOf ⟨th, rv, ht, hr⟩ ++ othersOf L).map ssC = (marksOf ⟨th, rv, ht, hr⟩).map ssC ++ (othersOf L).map ssC) := by
        refine Lib.hid ⟨?_, List.map_append ..⟩
        simp
      have HD1 := Lib.hid (fun hl => setOf_large (m := ⟨th, rv, ht, hr⟩) HC0.out HMk.out hl)
      have HD2 := Lib.hid (fun hl => setOf_ok (m := ⟨th, rv, ht, hr⟩) HC0.out HMk.out hl)
      clear hO2 hb2 hb3 hO3 HX
      have HR := Lib.hid hrows
      have HO := Lib.hid hone
      clear hrows hone
      generalize hR1 : (marksOf ⟨th, rv, ht, hr⟩).map ssC = R1 at *
      generalize hR2 : (othersOf L).map ssC = R2 at *
      rw [q4] at hT3 ⊢
      have Q3 := Lib.hid q3
      have Q4 := Lib.hid q4
      clear hR1 hR2 q3 q4
      generalize (othersOf L).length = n2 at *
      generalize (marksOf ⟨th, rv, ht, hr⟩).length = n1 at *
      go_wp2_with (first | (at_builtin; refine wpList_append_tab _ rfl _ _ 22 rfl w1.heap.size 31 _ 2 32 Tryd.underlying22 info_pair rfl (by decide) _ R1 rfl hO2' a3 n2 cap3 R2 w3 hT3 (Below.refl _ _) rfl HR.out HO.out (by rw [Q3.out]; omega) (by decide) (by omega) ?_; intro v' w4 hO4 hg4; obtain ⟨a4, cap4, hv4, hT4⟩ := hO4.tab; rw [List.length_append, Q3.out, Q4.out] at hv4; subst hv4))
      · have hl : 40 < (marksOf ⟨th, rv, ht, hr⟩ ++ othersOf L).length := by rw [HS.out.1, List.length_append, Q3.out, Q4.out]; omega
        have HD := Lib.hid (HD1.out hl)
        clear hl
        go_ret2
        exact ⟨_, by rw [HD.out]; rfl, by rw [HD.out]; exact Own.nil _ _ _ _, hO2'.under HB3.out hs1 (by omega) hg4⟩
      · have hl : (marksOf ⟨th, rv, ht, hr⟩ ++ othersOf L).length ≤ 40 := by rw [HS.out.1, List.length_append, Q3.out, Q4.out]; omega
        have HD := Lib.hid (HD2.out hl)
        clear hl
        go_ret2
        exact ⟨_, by rw [HD.out]; rfl, by rw [HD.out]; show Own _ _ _ _ _ ((marksOf ⟨th, rv, ht, hr⟩ ++ othersOf L).map ssC); rw [HS.out.2]; exact hO4.base_le hs1, hO2'.under HB3.out hs1 (by omega) hg4⟩
  · have HF := Lib.hid (setOf_bad (m := ⟨th, rv, ht, hr⟩) hc)
    have t : (check L != 0) = true := by simpa using hc
    generalize check L = c at *
    go_enter Tryd.func5, Tryd.ntmps5
    go_wp2_with fail
    refine HC.out.mono ?_
    rintro e w1 ⟨rfl, hb1⟩
    go_wp2
    go_ret2
    exact ⟨_, by rw [HF.out]; rfl, by rw [HF.out]; exact Own.nil _ _ _ _, below_on hb0 hb1⟩
end Go.Proofs.YtfocmnjkoominaaDoor
