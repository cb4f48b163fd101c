/- The least level of a span and all that are part of it is what the mending gives. Mathematics alone. -/
import Derived.Test.YteddoccgbebbeaaSpanMath
namespace Go.Proofs.Yteddoccgbebbeaa
namespace Span

/-- the least level of those below j that are part of span i, and of v; c says who is part of it -/
def lowTo (l : List (Int × Int)) (c : Nat → Bool) (v : Int) : Nat → Int
  | 0 => v
  | j + 1 => match l[j]? with
    | some t => if c j = true ∧ t.2 < lowTo l c v j then t.2 else lowTo l c v j
    | none => lowTo l c v j
theorem lowTo_yes {l : List (Int × Int)} {c : Nat → Bool} {v : Int} {j : Nat} {t : Int × Int} (h : l[j]? = some t) (hc : c j = true) (hl : t.2 < lowTo l c v j) : lowTo l c v (j + 1) = t.2 := by
  rw [lowTo, h]; exact if_pos ⟨hc, hl⟩
theorem lowTo_far {l : List (Int × Int)} {c : Nat → Bool} {v : Int} {j : Nat} {t : Int × Int} (h : l[j]? = some t) (hc : c j = false) : lowTo l c v (j + 1) = lowTo l c v j := by
  rw [lowTo, h]; exact if_neg (fun ⟨h1, _⟩ => by rw [hc] at h1; cases h1)
theorem lowTo_more {l : List (Int × Int)} {c : Nat → Bool} {v : Int} {j : Nat} {t : Int × Int} (h : l[j]? = some t) (hl : lowTo l c v j ≤ t.2) : lowTo l c v (j + 1) = lowTo l c v j := by
  rw [lowTo, h]; exact if_neg (fun ⟨_, h2⟩ => by omega)
theorem lowTo_spec (l : List (Int × Int)) (c : Nat → Bool) (v : Int) : ∀ n : Nat, n ≤ l.length → lowTo l c v n ≤ v ∧ (∀ (j : Nat) (t : Int × Int), j < n → l[j]? = some t → c j = true → lowTo l c v n ≤ t.2) ∧ (lowTo l c v n = v ∨ ∃ (j : Nat) (t : Int × Int), l[j]? = some t ∧ c j = true ∧ lowTo l c v n = t.2)
  | 0, _ => ⟨Int.le_refl _, fun j t hj => by omega, Or.inl rfl⟩
  | n + 1, hn => by
    obtain ⟨h1, h2, h3⟩ := lowTo_spec l c v n (by omega)
    obtain ⟨t, ht⟩ : ∃ t, l[n]? = some t := ⟨_, List.getElem?_eq_getElem (by omega)⟩
    by_cases hc : c n = true
    · by_cases hl : t.2 < lowTo l c v n
      · rw [lowTo_yes ht hc hl]
        refine ⟨by omega, fun j t' hj ht' hc' => ?_, Or.inr ⟨n, t, ht, hc, rfl⟩⟩
        by_cases e : j = n
        · subst e; rw [ht, Option.some.injEq] at ht'; subst ht'; exact Int.le_refl _
        · have := h2 j t' (by omega) ht' hc'; omega
      · rw [lowTo_more ht (by omega)]
        refine ⟨h1, fun j t' hj ht' hc' => ?_, h3⟩
        by_cases e : j = n
        · subst e; rw [ht, Option.some.injEq] at ht'; subst ht'; omega
        · exact h2 j t' (by omega) ht' hc'
    · rw [lowTo_far ht (by simpa using hc)]
      refine ⟨h1, fun j t' hj ht' hc' => ?_, h3⟩
      by_cases e : j = n
      · subst e; exact absurd hc' hc
      · exact h2 j t' (by omega) ht' hc'
/-- down the way the levels of the mended trace do not fall below that of its end -/
theorem mend_path {l : List (Int × Int)} (hl : ∀ (i : Nat) (s : Int × Int), l[i]? = some s → -1 ≤ s.1 ∧ s.1 < (i : Int)) {j i : Nat} (h : Under l j i) : ∀ {v v' : Int} {u u' : Int}, (mendL l)[i]? = some (u, v) → (mendL l)[j]? = some (u', v') → v ≤ v' := by
  have hM := mendL_mid hl
  induction h with
  | self i => intro v v' u u' h1 h2; rw [h1, Option.some.injEq, Prod.mk.injEq] at h2; omega
  | @up i j k s hs hj _ ih =>
    intro v v' u u' h1 h2
    obtain ⟨w, g1, _⟩ := hM.get i s hs
    rw [g1, Option.some.injEq, Prod.mk.injEq] at h2
    have hb := hl i s hs
    have hlt : j < l.length := by have := (List.getElem?_eq_some_iff.1 hs).1; omega
    obtain ⟨y, hy⟩ : ∃ y, l[j]? = some y := ⟨_, List.getElem?_eq_getElem hlt⟩
    obtain ⟨x, g2, _⟩ := hM.get j y hy
    have h3 := ih h1 g2
    have h4 := hM.closed i (s.1, w) (y.1, x) (Nat.zero_le _) g1 (by simp only; omega) (by simp only; rw [hj, Int.toNat_natCast]; exact g2)
    simp only at h4
    omega
theorem low_mend {l : List (Int × Int)} (h : spansE l = 0) {c : Nat → Bool} {i : Nat} {u v : Int} (hs : l[i]? = some (u, v)) (hc : ∀ j, c j = true ↔ Under l j i) : (mendL l)[i]? = some (u, lowTo l c v l.length) := by
  obtain ⟨_, h2⟩ := spansE_zero h
  have hl : ∀ (i : Nat) (s : Int × Int), l[i]? = some s → -1 ≤ s.1 ∧ s.1 < (i : Int) := fun i s hs => ⟨(h2 i s hs).1, (h2 i s hs).2.1⟩
  have hM := mendL_mid hl
  obtain ⟨x, g1, g2, j, t, g3, g4, g5⟩ := hM.get i _ hs
  simp only at g1 g2
  obtain ⟨s1, s2, s3⟩ := lowTo_spec l c v l.length (Nat.le_refl _)
  have a1 : lowTo l c v l.length ≤ x := by
    have := s2 j t (List.getElem?_eq_some_iff.1 g4).1 g4 ((hc j).2 g3)
    omega
  have a2 : x ≤ lowTo l c v l.length := by
    rcases s3 with e | ⟨j', t', e1, e2, e3⟩
    · omega
    · obtain ⟨y, k1, k2, _⟩ := hM.get j' t' e1
      have := mend_path hl ((hc j').1 e2) g1 k1
      omega
  rw [g1, show x = lowTo l c v l.length from by omega]
end Span
end Go.Proofs.Yteddoccgbebbeaa
