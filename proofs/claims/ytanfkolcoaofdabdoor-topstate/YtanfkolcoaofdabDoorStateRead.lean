/- The contract of the program's state.Read, by the parts of its text. -/
import Derived.Test.YtanfkolcoaofdabDoorStateSplits
namespace Go.Proofs.YtanfkolcoaofdabDoor
open Go.ChangeShapes Go.WideShapes Go.ChangeAt Go.RowKit
open StateMath

namespace StateMath
theorem cutP_size (q : ByteArray) (p : Pr) (h : cutP q = some p) : p.1.size ≤ q.size ∧ p.2.size ≤ q.size := by
  unfold cutP at h
  split at h
  · cases h
    have hl := len_list q
    refine ⟨?_, ?_⟩
    · show ((Lib.cut q.data.toList [61]).1.toArray).size ≤ _
      rw [List.size_toArray, ← hl]
      unfold Lib.cut
      split
      · simp; omega
      · simp
    · show ((Lib.cut q.data.toList [61]).2.1.toArray).size ≤ _
      rw [List.size_toArray, ← hl]
      unfold Lib.cut
      split
      · simp
      · simp
  · cases h
theorem cutAll_size (l : List ByteArray) (R : List Pr) (B : Nat) (h : cutAll l = some R) (hB : ∀ q ∈ l, q.size ≤ B) : ∀ p ∈ R, p.1.size ≤ B ∧ p.2.size ≤ B := by
  induction l generalizing R with
  | nil => cases h; intro p hp; cases hp
  | cons x t ih =>
    have h' : (cutP x).bind (fun p => (cutAll t).map (fun r => p :: r)) = some R := h
    cases hx : cutP x with
    | none => rw [hx] at h'; cases h'
    | some p0 =>
      rw [hx] at h'
      cases ht : cutAll t with
      | none => rw [ht] at h'; cases h'
      | some u =>
        rw [ht] at h'
        cases h'
        intro p hp
        have hxB := hB x (List.mem_cons_self ..)
        rcases List.mem_cons.1 hp with rfl | hp
        · have := cutP_size x _ hx
          omega
        · exact ih u ht (fun q hq => hB q (List.mem_cons_of_mem _ hq)) p hp
/-- what Read returns: the pairs, and the error -/
def readP (s : ByteArray) : List Pr × Int :=
  if 200 < s.size then ([], 2) else if s.size = 0 then ([], 0) else
    match cutAll (partsOf s) with
    | none => ([], 3)
    | some R => if check R = 0 then (R, 0) else ([], check R)
end StateMath

set_option maxRecDepth 100000 in
set_option maxHeartbeats 2000000 in
theorem read_any (s : ByteArray) (m : Int) (w : World) (hsz : s.size ≤ maxLen) (hm : w.cell? ⟨2, 0, none⟩ = some (.int .i64 m)) (hw : 2 < w.heap.size) :
    Calls Tryd.prog 14 #[.string s] w fun e w' => ∃ v, e = .returned (.tuple #[v, .int .i64 (readP s).2]) ∧ Own w' w.heap.size 45 2 v ((readP s).1.map ssC) ∧ Below w.heap.size w w' := by
  unfold maxLen at hsz
  by_cases h200 : 200 < s.size
  · have HF : Hid (readP s = ([], 2)) := by show _ = _; unfold readP; rw [if_pos h200]
    clear hm
    go_enter Tryd.func14, Tryd.ntmps14
    go_wp2
    go_ret2
    exact ⟨_, by rw [HF.out]; rfl, by rw [HF.out]; exact Own.nil _ _ _ _, Below.refl _ _⟩
  · by_cases h0 : s.size = 0
    · have HF : Hid (readP s = ([], 0)) := by show _ = _; unfold readP; rw [if_neg h200, if_pos h0]
      have t0 : s.toList.isEmpty = true := by
        rw [Lib.toList_data]
        have := len_list s
        rw [h0] at this
        rw [List.length_eq_zero_iff.1 this]
        rfl
      have hT : Tab w none 0 0 2 (([] : List Pr).map ssC) := ⟨rfl, Nat.le_refl _, by decide, fun _ => rfl, fun h => by omega⟩
      have HC := Lib.hid (check_any none 0 0 [] w hT (by simp))
      have h200' : s.size ≤ 200 := by omega
      have HSp : Hid (Calls Tryd.prog 36 #[.string s] w fun e w' => e = .returned (.tuple #[.slice none 0 0, .bool true]) ∧ w = w') := by
        refine Lib.hid ?_
        clear h200 h0 hm HC
        go_enter Tryd.func36, Tryd.ntmps36
        go_wp2
        go_ret2
        exact ⟨rfl, rfl⟩
      rw [show check [] = 0 from rfl] at HC
      clear h0 h200 hm hT t0
      go_enter Tryd.func14, Tryd.ntmps14
      go_wp2_with fail
      refine HSp.out.mono ?_
      rintro e w1 ⟨rfl, rfl⟩
      go_wp2_with fail
      refine HC.out.mono ?_
      rintro e w1 ⟨rfl, hb1⟩
      go_wp2
      go_ret2
      exact ⟨_, by rw [HF.out]; rfl, by rw [HF.out]; exact Own.nil _ _ _ _, hb1⟩
    · have HSp := Lib.hid (split_any s m w (by omega) (by omega) hm hw)
      have h200' : s.size ≤ 200 := by omega
      have HR0 : Hid (readP s = match cutAll (partsOf s) with | none => ([], 3) | some R => if check R = 0 then (R, 0) else ([], check R)) := by show _ = _; unfold readP; rw [if_neg h200, if_neg h0]
      have HPs := Lib.hid (fun q (hq : q ∈ partsOf s) => split_size _ _ s q hq)
      clear h0 h200 hm
      cases hcut : cutAll (partsOf s) with
      | none =>
        rw [hcut] at HSp HR0
        go_enter Tryd.func14, Tryd.ntmps14
        go_wp2_with fail
        refine HSp.out.mono ?_
        rintro e w1 ⟨v, rfl, hO, hb1⟩
        clear hcut HPs
        have HF : Hid (readP s = ([], 3)) := HR0
        go_wp2
        go_ret2
        exact ⟨_, by rw [HF.out]; rfl, by rw [HF.out]; exact Own.nil _ _ _ _, hb1⟩
      | some R =>
        have HSz := Lib.hid (cutAll_size _ R 200 hcut (fun q hq => Nat.le_trans (HPs.out q hq) h200'))
        rw [hcut] at HSp HR0
        clear hcut HPs
        have HR1 : Hid (readP s = if check R = 0 then (R, 0) else ([], check R)) := HR0
        clear HR0
        go_enter Tryd.func14, Tryd.ntmps14
        go_wp2_with fail
        refine HSp.out.mono ?_
        rintro e w1 ⟨v, rfl, hO, hb1⟩
        have hO' : Own w1 w.heap.size 45 2 v (R.map ssC) := hO
        obtain ⟨a1, cap1, hv, hT1⟩ := hO'.tab
        subst hv
        have HC := Lib.hid (check_any a1 _ cap1 R w1 hT1 (fun p hp => by have := HSz.out p hp; unfold maxLen; omega))
        rw [List.length_map] at HC hO' ⊢
        have HOx := Lib.hid hO'
        clear hO hO' hT1 HSp
        by_cases hc : check R = 0
        · rw [hc] at HC
          have HF : Hid (readP s = (R, 0)) := by show _ = _; rw [HR1.out, if_pos hc]
          clear hc HR1
          go_wp2_with fail
          refine HC.out.mono ?_
          rintro e w2 ⟨rfl, hb2⟩
          go_wp2
          go_ret2
          exact ⟨_, by rw [HF.out]; rfl, by rw [HF.out]; exact HOx.out.below hb2, below_on hb1 hb2⟩
        · have HF : Hid (readP s = ([], check R)) := by show _ = _; rw [HR1.out, if_neg hc]
          have t : (check R != 0) = true := by simpa using hc
          clear HR1
          generalize check R = c at *
          go_wp2_with fail
          refine HC.out.mono ?_
          rintro e w2 ⟨rfl, hb2⟩
          go_wp2
          go_ret2
          exact ⟨_, by rw [HF.out]; rfl, by rw [HF.out]; exact Own.nil _ _ _ _, below_on hb1 hb2⟩
end Go.Proofs.YtanfkolcoaofdabDoor
