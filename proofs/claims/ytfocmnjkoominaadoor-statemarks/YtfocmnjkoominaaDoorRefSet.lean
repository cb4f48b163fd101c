/- The contract of the document's own setting of marks (culref.Set). -/
import Derived.Test.YtfocmnjkoominaaDoorDelPairs
import Derived.Test.YtfocmnjkoominaaDoorClonePairs
import Derived.Test.YtfocmnjkoominaaDoorStateMark
import Derived.Test.YtfocmnjkoominaaDoorRefDraw
import Derived.Test.YtfocmnjkoominaaDoorRefHexaTh
import Derived.Deep.DeepCutAuto
namespace Go.Proofs.YtfocmnjkoominaaDoor
open Go.ChangeShapes Go.WideShapes Go.ChangeAt Go.RowKit
open StateMath

/-- the answer, where the pairs may be -/
def setB (L : List Pr) (m : Mk) : List Pr × Int := if mkOk m = true then (if 40 < (marksOf m ++ othersOf L).length then ([], 2) else (marksOf m ++ othersOf L, 0)) else ([], 1)
theorem setB_of {L : List Pr} {m : Mk} (h : check L = 0) : setOf L m = setB L m := by unfold setOf setB; rw [if_pos h]

set_option maxRecDepth 100000 in
set_option maxHeartbeats 2000000 in
theorem refSet_any (a : Option Addr) (len cap : Nat) (L : List Pr) (th rv : Int) (ht hr : Bool) (w : World) (h : Tab w a len cap 2 (L.map ssC)) (hlen : len ≤ 1000) :
    Calls Tryd.prog 8 #[.slice a len cap, .agg #[.int .i64 th, .int .i64 rv, .bool ht, .bool hr]] w fun e w' =>
      ∃ v, e = .returned (.tuple #[v, .int .i64 (setB L ⟨th, rv, ht, hr⟩).2]) ∧ Own w' w.heap.size 31 2 v ((setB L ⟨th, rv, ht, hr⟩).1.map ssC) ∧ Below w.heap.size w w' := by
  have hl := h.hlen
  rw [List.length_map] at hl
  have hb0 : Below w.heap.size w (w.alloc (.cells (mkC ⟨th, rv, ht, hr⟩) 24)) := (Below.refl _ _).alloc (Nat.le_refl _) _
  have hM := (MapKept.heap_alloc w (.cells (mkC ⟨th, rv, ht, hr⟩) 24)).1
  have C1 := fun W => refDraw_any th W _ rfl
  have C2 := fun W => refDraw_any rv W _ rfl
  have CC := Lib.hid (clone_pairs a len cap L (w.alloc (.cells (mkC ⟨th, rv, ht, hr⟩) 24)) (h.below hb0) (by omega))
  have HB0 := Lib.hid hb0
  have HM := Lib.hid hM
  have HLL := Lib.hid hl
  obtain ⟨c0, c1, c2, c3, f0, f1, f2, f3⟩ := four_of (m := ⟨th, rv, ht, hr⟩) hM
  clear h hl hb0 hM
  by_cases hok : mkOk ⟨th, rv, ht, hr⟩ = true
  · have ho := hok
    unfold mkOk at ho
    simp only [Bool.and_eq_true, decide_eq_true_iff] at ho
    obtain ⟨⟨h1, h2⟩, h3, h4⟩ := ho
    rw [show (decide (0 ≤ th) && decide (th < 72057594037927936)) = true from by rw [Bool.and_eq_true, decide_eq_true_iff, decide_eq_true_iff]; exact ⟨h1, h2⟩] at C1
    rw [show (decide (0 ≤ rv) && decide (rv < 72057594037927936)) = true from by rw [Bool.and_eq_true, decide_eq_true_iff, decide_eq_true_iff]; exact ⟨h3, h4⟩] at C2
    have C1 := Lib.hid C1
    have C2 := Lib.hid C2
    obtain ⟨n1, rfl⟩ := Int.eq_ofNat_of_zero_le h1
    obtain ⟨n2, rfl⟩ := Int.eq_ofNat_of_zero_le h3
    have CT := Lib.hid (fun W => refTh_any n1 W (by omega))
    have CR := Lib.hid (fun W => refRv_any n2 W (by omega))
    have HSB : Hid (setB L ⟨(n1 : Int), (n2 : Int), ht, hr⟩ = if 40 < (marksOf ⟨(n1 : Int), (n2 : Int), ht, hr⟩ ++ othersOf L).length then ([], 2) else (marksOf ⟨(n1 : Int), (n2 : Int), ht, hr⟩ ++ othersOf L, 0)) := Lib.hid (if_pos hok)
    obtain ⟨RS, hRS⟩ : ∃ x, setB L ⟨(n1 : Int), (n2 : Int), ht, hr⟩ = x := ⟨_, rfl⟩
    rw [hRS] at HSB ⊢
    clear hok h1 h2 h3 h4 hRS
    go_enter Tryd.func8, Tryd.ntmps8
    go_wp2_with fail
    refine (C1.out _).mono ?_
    rintro e w1 ⟨rfl, hw1⟩
    rw [← hw1]
    clear hw1 C1
    go_wp2_with fail
    refine (C2.out _).mono ?_
    rintro e w1 ⟨rfl, hw1⟩
    rw [← hw1]
    clear hw1 C2
    go_wp2_with fail
    refine CC.out.mono ?_
    rintro e w1 ⟨v1, rfl, hO1, hb1⟩
    obtain ⟨a1, k1, rfl, _⟩ := hO1.tab
    rw [List.length_map, HLL.out] at hO1 ⊢
    rw [show (w.alloc (.cells (mkC ⟨(n1 : Int), (n2 : Int), ht, hr⟩) 24)).heap.size = w.heap.size + 1 from by simp] at hO1
    have hs1 : w.heap.size + 1 ≤ w1.heap.size := by have := hb1.size; simp at this; omega
    have CD := Lib.hid (deletePairs_own hO1 hs1)
    have HB1 := Lib.hid (below_on HB0.out hb1)
    have HM1 := Lib.hid ((hb1.block _ (Array.getElem?_eq_some_iff.1 HM.out).1).trans HM.out)
    clear hO1 hb1 CC HB0 HM c0 c1 c2 c3 f0 f1 f2 f3
    go_wp2_with fail
    refine CD.out.mono ?_
    rintro e w2 ⟨v2, rfl, hO3, hb2⟩
    have hO2 : Own w2 (w.heap.size + 1) 31 2 v2 ((othersOf L).map ssC) := hO3
    clear hO3
    have HB2 := Lib.hid (HB1.out.trans (hb2.mono (Nat.le_succ _)))
    have HM2 := Lib.hid ((hb2.block w.heap.size (Nat.lt_succ_self _) ).trans HM1.out)
    have HOL : Hid ((othersOf L).length ≤ 1000) := Lib.hid (by have := others_le L; rw [HLL.out] at this; omega)
    have hs2 : w.heap.size + 1 ≤ w2.heap.size := (Array.getElem?_eq_some_iff.1 HM2.out).1
    generalize othersOf L = O at *
    obtain ⟨a2, k2, rfl, _⟩ := hO2.tab
    rw [List.length_map] at hO2 ⊢
    obtain ⟨n3, hn3⟩ : ∃ u, O.length = u := ⟨_, rfl⟩
    rw [hn3] at hO2 HOL ⊢
    have HO2 := Lib.hid hO2
    have HN3 := Lib.hid hn3
    obtain ⟨c0, c1, c2, c3, f0, f1, f2, f3⟩ := four_of HM2.out
    clear hO2 hb2 CD HB1 HM1 hs1 hn3
    go_upto_if 21 with fail
    go_cut [6] (fun s wx => ∃ (v4 : Value), s = v4 ∧ Hid (Own wx (w.heap.size + 1) 31 2 v4 (((if hr = true then [rvP ⟨(n1 : Int), (n2 : Int), ht, hr⟩] else []) ++ O).map ssC)) ∧ Hid (Below w.heap.size w wx) ∧ Hid (wx.heap[w.heap.size]? = some (.cells (mkC ⟨(n1 : Int), (n2 : Int), ht, hr⟩) 24 (0, 0))))
    case first =>
      cases hr with
      | false =>
        go_wp2_with fail
        go_meet
        case rel => exact ⟨_, rfl, HO2, HB2, HM2⟩
      | true =>
        have HLI : Hid (Own (w2.alloc (.cells #[.string ⟨#[114, 118]⟩, .string (rvB n2)] 31)) (w.heap.size + 1) 31 2 (.slice (some ⟨w2.heap.size, 0, none⟩) 1 1) [ssC (⟨#[114, 118]⟩, rvB n2)]) := Lib.hid (Own.full (World.ownsRow_lit w2 #[.string ⟨#[114, 118]⟩, .string (rvB n2)] 1 hs2 (by decide) rfl) (by refine ⟨rfl, rfl, ?_⟩; intro r hr; simp [ssC] at hr; subst hr; rfl))
        go_wp2_with fail
        refine (CR.out _).mono ?_
        rintro e w3 ⟨rfl, hw3⟩
        rw [← hw3]
        clear hw3
        go_wp2_with (at_builtin; refine wpList_append_tab _ rfl _ _ 22 rfl (w.heap.size + 1) 31 _ 2 32 Tryd.underlying22 info_pair rfl (by decide) _ [ssC (⟨#[114, 118]⟩, rvB n2)] rfl HLI.out a2 n3 k2 (O.map ssC) w2 HO2.out.tab_of ((Below.refl _ _).alloc (Nat.le_refl _) _) rfl (rows_of ssC_len O) (one_of ssC_one O) (by have := HOL.out; simp; omega) (by decide) (by simp; omega) ?_; intro v5 w5 hO5 hg5)
        go_meet
        case rel =>
          have hb5 : Below (w.heap.size + 1) w2 w5 := HLI.out.under ((Below.refl _ _).alloc hs2 _) (Nat.le_refl _) (by simp; omega) hg5
          exact ⟨_, rfl, Lib.hid hO5, Lib.hid (HB2.out.trans (hb5.mono (Nat.le_succ _))), Lib.hid ((hb5.block w.heap.size (Nat.lt_succ_self _)).trans HM2.out)⟩
    case rest =>
    obtain ⟨v4, rfl, HO4, HB4, HM4⟩ := hcut
    have HPL : Hid (((if hr = true then [rvP ⟨(n1 : Int), (n2 : Int), ht, hr⟩] else []) ++ O).length ≤ 1001) := Lib.hid (by
      have h1 := HOL.out
      rw [List.length_append, HN3.out]
      cases hr <;> simp <;> omega)
    have HMO : Hid ((if ht = true then [thP ⟨(n1 : Int), (n2 : Int), ht, hr⟩] else []) ++ ((if hr = true then [rvP ⟨(n1 : Int), (n2 : Int), ht, hr⟩] else []) ++ O) = marksOf ⟨(n1 : Int), (n2 : Int), ht, hr⟩ ++ O) := Lib.hid (by rw [← List.append_assoc]; rfl)
    generalize (if hr = true then [rvP ⟨(n1 : Int), (n2 : Int), ht, hr⟩] else []) ++ O = P at *
    obtain ⟨wq, hwq⟩ : ∃ wq, wq = wc := ⟨_, rfl⟩
    subst hwq
    have hs4 : w.heap.size + 1 ≤ wq.heap.size := (Array.getElem?_eq_some_iff.1 HM4.out).1
    obtain ⟨a4, k4, rfl, _⟩ := HO4.out.tab
    have hO4 := HO4.out
    rw [List.length_map] at hO4 ⊢
    obtain ⟨n4, hn4⟩ : ∃ u, P.length = u := ⟨_, rfl⟩
    rw [hn4] at hO4 HPL ⊢
    clear HO4
    have HO4 := Lib.hid hO4
    have HN4 := Lib.hid hn4
    clear hO4 hn4 HO2 HB2 HM2 HN3 HOL hs2 c0 c1 c2 c3 f0 f1 f2 f3
    obtain ⟨c0, c1, c2, c3, f0, f1, f2, f3⟩ := four_of HM4.out
    go_upto_if 30 with fail
    go_cut [6] (fun s wx => ∃ (v4 : Value), s = v4 ∧ Hid (Own wx (w.heap.size + 1) 31 2 v4 (((if ht = true then [thP ⟨(n1 : Int), (n2 : Int), ht, hr⟩] else []) ++ P).map ssC)) ∧ Hid (Below w.heap.size w wx))
    case first =>
      cases ht with
      | false =>
        go_wp2_with fail
        go_meet
        case rel => exact ⟨_, rfl, HO4, HB4⟩
      | true =>
        have HLI : Hid (Own (wq.alloc (.cells #[.string ⟨#[116, 104]⟩, .string (thB n1)] 31)) (w.heap.size + 1) 31 2 (.slice (some ⟨wq.heap.size, 0, none⟩) 1 1) [ssC (⟨#[116, 104]⟩, thB n1)]) := Lib.hid (Own.full (World.ownsRow_lit wq #[.string ⟨#[116, 104]⟩, .string (thB n1)] 1 hs4 (by decide) rfl) (by refine ⟨rfl, rfl, ?_⟩; intro r hr; simp [ssC] at hr; subst hr; rfl))
        go_wp2_with fail
        refine (CT.out _).mono ?_
        rintro e w3 ⟨rfl, hw3⟩
        rw [← hw3]
        clear hw3
        go_wp2_with (at_builtin; refine wpList_append_tab _ rfl _ _ 22 rfl (w.heap.size + 1) 31 _ 2 32 Tryd.underlying22 info_pair rfl (by decide) _ [ssC (⟨#[116, 104]⟩, thB n1)] rfl HLI.out a4 n4 k4 (P.map ssC) wq HO4.out.tab_of ((Below.refl _ _).alloc (Nat.le_refl _) _) rfl (rows_of ssC_len P) (one_of ssC_one P) (by have := HPL.out; simp; omega) (by decide) (by simp; omega) ?_; intro v5 w5 hO5 hg5)
        go_meet
        case rel =>
          have hb5 : Below (w.heap.size + 1) wq w5 := HLI.out.under ((Below.refl _ _).alloc hs4 _) (Nat.le_refl _) (by simp; omega) hg5
          exact ⟨_, rfl, Lib.hid hO5, Lib.hid (HB4.out.trans (hb5.mono (Nat.le_succ _)))⟩
    case rest =>
    obtain ⟨v6, rfl, HO6, HB6⟩ := hcut
    rw [HMO.out] at HO6
    rw [← HMO.out] at HSB
    obtain ⟨a6, k6, rfl, _⟩ := HO6.out.tab
    have hO6 := HO6.out
    rw [List.length_map] at hO6 ⊢
    have HML : Hid ((marksOf ⟨(n1 : Int), (n2 : Int), ht, hr⟩ ++ O).length ≤ 1002) := Lib.hid (by
      rw [← HMO.out, List.length_append, HN4.out]
      have h1 := HPL.out
      cases ht <;> simp <;> omega)
    rw [HMO.out] at HSB
    generalize marksOf ⟨(n1 : Int), (n2 : Int), ht, hr⟩ ++ O = Q at *
    obtain ⟨n6, hn6⟩ : ∃ u, Q.length = u := ⟨_, rfl⟩
    rw [hn6] at hO6 HML HSB ⊢
    have HO7 := Lib.hid (hO6.base_le (Nat.le_succ w.heap.size))
    have hml := HML.out
    clear HO6 hO6 hn6 HMO HO4 HB4 HM4 HPL HN4 c0 c1 c2 c3 f0 f1 f2 f3 hs4
    by_cases h40 : 40 < n6
    · obtain rfl : RS = ([], 2) := by rw [HSB.out, if_pos h40]
      clear HSB
      go_wp2
      go_ret2
      exact ⟨_, rfl, Own.nil _ _ _ _, HB6.out⟩
    · obtain rfl : RS = (Q, 0) := by rw [HSB.out, if_neg h40]
      clear HSB
      have h41 : n6 ≤ 40 := by omega
      clear h40
      go_wp2
      go_ret2
      exact ⟨_, rfl, HO7.out, HB6.out⟩
  · have hS : setB L ⟨th, rv, ht, hr⟩ = ([], 1) := if_neg hok
    rw [hS]
    have hor : ¬ (0 ≤ th ∧ th < 72057594037927936) ∨ ((0 ≤ th ∧ th < 72057594037927936) ∧ ¬ (0 ≤ rv ∧ rv < 72057594037927936)) := by
      by_cases h1 : 0 ≤ th ∧ th < 72057594037927936
      · refine Or.inr ⟨h1, fun h2 => hok ?_⟩
        unfold mkOk
        simp only [Bool.and_eq_true, decide_eq_true_iff]
        exact ⟨h1, h2⟩
      · exact Or.inl h1
    clear hS hok HM HLL CC
    rcases hor with h1 | ⟨h1, h2⟩
    · rw [show (decide (0 ≤ th) && decide (th < 72057594037927936)) = false from by rw [← Bool.not_eq_true, Bool.and_eq_true, decide_eq_true_iff, decide_eq_true_iff]; exact h1] at C1
      have C1 := Lib.hid C1
      clear C2 h1
      go_enter Tryd.func8, Tryd.ntmps8
      go_wp2_with fail
      refine (C1.out _).mono ?_
      rintro e w1 ⟨rfl, hw1⟩
      rw [← hw1]
      clear hw1 C1
      go_wp2
      go_ret2
      exact ⟨_, rfl, Own.nil _ _ _ _, HB0.out⟩
    · rw [show (decide (0 ≤ th) && decide (th < 72057594037927936)) = true from by rw [Bool.and_eq_true, decide_eq_true_iff, decide_eq_true_iff]; exact h1] at C1
      rw [show (decide (0 ≤ rv) && decide (rv < 72057594037927936)) = false from by rw [← Bool.not_eq_true, Bool.and_eq_true, decide_eq_true_iff, decide_eq_true_iff]; exact h2] at C2
      have C1 := Lib.hid C1
      have C2 := Lib.hid C2
      clear h1 h2
      go_enter Tryd.func8, Tryd.ntmps8
      go_wp2_with fail
      refine (C1.out _).mono ?_
      rintro e w1 ⟨rfl, hw1⟩
      rw [← hw1]
      clear hw1 C1
      go_wp2_with fail
      refine (C2.out _).mono ?_
      rintro e w1 ⟨rfl, hw1⟩
      rw [← hw1]
      clear hw1 C2
      go_wp2
      go_ret2
      exact ⟨_, rfl, Own.nil _ _ _ _, HB0.out⟩
end Go.Proofs.YtfocmnjkoominaaDoor
