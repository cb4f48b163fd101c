/- A mended trace that is kept by one random value: what its spans stand for is the estimate of ones. Mathematics alone. -/
import Derived.Test.YtfocmnjkoominaaMeanMath
import Derived.Test.YtfocmnjkoominaaSpanMath
namespace Go.Proofs.Ytfocmnjkoominaa
open Go.ChangeShapes Go.WideShapes Go.ChangeAt Go.RowKit
open Est Span
namespace Trace
/-- the numbers of which a span is made -/
def two (c : List Int) : List Int := if c.length < 2 then [0, 0] else c
/-- the span that a list of numbers makes at place i -/
def spanT (i : Nat) (c : List Int) : Int × Int := (withI ((two c)[0]?.getD 0) ((i : Int) + 1) - 1, withI ((two c)[1]?.getD 0) 7)
def spansT (L : List (Sl Int)) : List (Int × Int) := (List.range L.length).map (fun i => spanT i (match L[i]? with | some c => c.l | none => []))
theorem spansT_len (L : List (Sl Int)) : (spansT L).length = L.length := by simp [spansT]
theorem spansT_get {L : List (Sl Int)} {i : Nat} {c : Sl Int} (h : L[i]? = some c) : (spansT L)[i]? = some (spanT i c.l) := by
  obtain ⟨hi, rfl⟩ := List.getElem?_eq_some_iff.1 h
  simp [spansT, hi]
theorem spansT_take {L : List (Sl Int)} {k : Nat} {c : Sl Int} (h : L[k]? = some c) : spansT (L.take (k + 1)) = spansT (L.take k) ++ [spanT k c.l] := by
  have hk : k < L.length := (List.getElem?_eq_some_iff.1 h).1
  apply List.ext_getElem?
  intro i
  have hl : (L.take k).length = k := by rw [List.length_take]; omega
  by_cases e : i < k
  · have h1 : (L.take (k + 1))[i]? = some L[i] := by rw [List.getElem?_take, if_pos (by omega)]; exact List.getElem?_eq_getElem _
    have h2 : (L.take k)[i]? = some L[i] := by rw [List.getElem?_take, if_pos e]; exact List.getElem?_eq_getElem _
    rw [spansT_get h1, List.getElem?_append_left (by rw [spansT_len, hl]; exact e), spansT_get h2]
  · by_cases e2 : i = k
    · subst e2
      have h1 : (L.take (i + 1))[i]? = some c := by rw [List.getElem?_take, if_pos (by omega)]; exact h
      rw [spansT_get h1, List.getElem?_append_right (by rw [spansT_len, hl]; omega), spansT_len, hl, Nat.sub_self]
      rfl
    · rw [List.getElem?_eq_none (by rw [spansT_len, List.length_take]; omega), List.getElem?_eq_none (by rw [List.length_append, spansT_len, hl]; simp; omega)]
theorem spanT_bd (i : Nat) (c : List Int) : -1 ≤ (spanT i c).1 ∧ (spanT i c).1 < (i : Int) ∧ 0 ≤ (spanT i c).2 ∧ (spanT i c).2 ≤ 6 := by
  have h1 := withI_bd ((two c)[0]?.getD 0) ((i : Int) + 1) (by omega)
  have h2 := withI_bd ((two c)[1]?.getD 0) 7 (by omega)
  unfold spanT
  refine ⟨?_, ?_, ?_, ?_⟩ <;> simp only <;> omega
theorem spansT_ok {L : List (Sl Int)} (hL : L.length ≤ 40) : spansE (spansT L) = 0 :=
  spansE_ok (by rw [spansT_len]; exact hL) (fun i s hs => by
    have hi : i < L.length := by have := (List.getElem?_eq_some_iff.1 hs).1; rwa [spansT_len] at this
    rw [spansT_get (List.getElem?_eq_getElem hi), Option.some.injEq] at hs
    subst hs
    have := spanT_bd i (L[i]).l
    omega)
/-- the level of span i -/
def levelT (m : List (Int × Int)) (i : Nat) : Int := match m[i]? with | some s => s.2 | none => 0
theorem levelT_get {m : List (Int × Int)} {i : Nat} {s : Int × Int} (h : m[i]? = some s) : levelT m i = s.2 := by unfold levelT; rw [h]
theorem count_term (m : List (Int × Int)) (r : Int) : ∀ k, k ≤ m.length → countTo m (keptL m r) k = sumTo (fun i => term 1 (levelT m i) r) k
  | 0, _ => rfl
  | k + 1, hk => by
    obtain ⟨s, hs⟩ : ∃ s, m[k]? = some s := ⟨_, List.getElem?_eq_getElem (by omega)⟩
    rw [sumTo, ← count_term m r k (by omega)]
    by_cases h : thr s.2 ≤ r
    · rw [countTo_yes hs (by rw [keptL_get hs, decide_eq_true h]), levelT_get hs, term_yes h, Int.one_mul]
    · rw [countTo_no (by rw [keptL_get hs, decide_eq_false h]), levelT_get hs, term_no h, Int.add_zero]
/-- the estimate of ones -/
theorem ones_sum {m : List (Int × Int)} {r : Int} (hm : spansE m = 0) (r0 : 0 ≤ r) (r1 : r < 72057594037927936) :
    sumE (List.replicate m.length 1) (listTo (levelT m) m.length) (List.replicate m.length r) = 0 ∧ sumR (List.replicate m.length 1) (listTo (levelT m) m.length) (List.replicate m.length r) = countTo m (keptL m r) m.length := by
  obtain ⟨h1, h2⟩ := spansE_zero hm
  have hg : ∀ i, i < m.length → 0 ≤ levelT m i ∧ levelT m i ≤ 20 := fun i hi => by
    have hs := List.getElem?_eq_getElem hi
    rw [levelT_get hs]
    exact ⟨(h2 i _ hs).2.2.1, (h2 i _ hs).2.2.2⟩
  rw [rep_listTo, rep_listTo, count_term m r _ (Nat.le_refl _)]
  exact ⟨sumE_listTo h1 (fun i _ => by omega) hg (fun i _ => ⟨r0, r1⟩), sumR_listTo (B := 1) h1 (by decide) (by decide) (fun i _ => by omega) hg (fun i _ => ⟨r0, r1⟩)⟩
theorem kept_whole {l : List (Int × Int)} (h : spansE l = 0) (r : Int) : WholeP (mendL l) (keptL (mendL l) r) := by
  obtain ⟨_, h2⟩ := spansE_zero h
  obtain ⟨_, h3⟩ := spansE_zero (mendL_ok h)
  have hM := mendL_mid (l := l) (fun i s hs => ⟨(h2 i s hs).1, (h2 i s hs).2.1⟩)
  intro i s hs hk
  by_cases e : s.1 = -1
  · exact Or.inl e
  · right
    have hb := h3 i s hs
    obtain ⟨p, hp⟩ : ∃ p, (mendL l)[s.1.toNat]? = some p := ⟨_, List.getElem?_eq_getElem (by have := (List.getElem?_eq_some_iff.1 hs).1; omega)⟩
    have hc := hM.closed i s p (Nat.zero_le _) hs e hp
    rw [keptL_get hs, Option.some.injEq, decide_eq_true_iff] at hk
    rw [keptL_get hp, decide_eq_true]
    exact Int.le_trans (thr_mono hc) hk
end Trace
end Go.Proofs.Ytfocmnjkoominaa
