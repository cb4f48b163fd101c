/- Traces: what is wrong with one, what is kept of it, and how its levels are mended. Mathematics alone. -/
import Derived.Test.YtfocmnjkoominaaRefGateMath
namespace Go.Proofs.Ytfocmnjkoominaa
namespace Span

def okS (i : Nat) (s : Int × Int) : Bool := decide (-1 ≤ s.1) && decide (s.1 < (i : Int)) && decide (0 ≤ s.2) && decide (s.2 ≤ 20)
theorem okS_iff {i : Nat} {s : Int × Int} : okS i s = true ↔ -1 ≤ s.1 ∧ s.1 < (i : Int) ∧ 0 ≤ s.2 ∧ s.2 ≤ 20 := by
  unfold okS
  simp only [Bool.and_eq_true, decide_eq_true_iff, and_assoc]
def okFrom (l : List (Int × Int)) : Nat → Nat → Bool
  | _, 0 => true
  | i, n + 1 => (match l[i]? with | some s => okS i s | none => true) && okFrom l (i + 1) n
theorem okFrom_succ {l : List (Int × Int)} {i n : Nat} {s : Int × Int} (h : l[i]? = some s) : okFrom l i (n + 1) = (okS i s && okFrom l (i + 1) n) := by
  rw [okFrom, h]
theorem okFrom_iff {l : List (Int × Int)} : ∀ {n i : Nat}, okFrom l i n = true ↔ ∀ (j : Nat) (s : Int × Int), i ≤ j → j < i + n → l[j]? = some s → okS j s = true
  | 0, i => by simp [okFrom]; intro j s h1 h2; omega
  | n + 1, i => by
    rw [okFrom, Bool.and_eq_true, okFrom_iff]
    constructor
    · rintro ⟨h1, h2⟩ j s h3 h4 h5
      by_cases e : j = i
      · subst e; rw [h5] at h1; exact h1
      · exact h2 j s (by omega) (by omega) h5
    · intro h
      refine ⟨?_, fun j s h1 h2 h3 => h j s (by omega) (by omega) h3⟩
      cases hs : l[i]? with
      | none => rfl
      | some s => exact h i s (Nat.le_refl _) (by omega) hs
/-- what is wrong with a trace -/
def spansE (l : List (Int × Int)) : Int := if 40 < l.length then 2 else if okFrom l 0 l.length = true then 0 else 1
theorem spansE_zero {l : List (Int × Int)} (h : spansE l = 0) : l.length ≤ 40 ∧ ∀ (i : Nat) (s : Int × Int), l[i]? = some s → -1 ≤ s.1 ∧ s.1 < (i : Int) ∧ 0 ≤ s.2 ∧ s.2 ≤ 20 := by
  unfold spansE at h
  split at h
  · cases h
  split at h
  · rename_i h1 h2
    refine ⟨by omega, fun i s hs => okS_iff.1 (okFrom_iff.1 h2 i s (Nat.zero_le _) ?_ hs)⟩
    have := (List.getElem?_eq_some_iff.1 hs).1
    omega
  · cases h
theorem spansE_ok {l : List (Int × Int)} (h : l.length ≤ 40) (h2 : ∀ (i : Nat) (s : Int × Int), l[i]? = some s → -1 ≤ s.1 ∧ s.1 < (i : Int) ∧ 0 ≤ s.2 ∧ s.2 ≤ 20) : spansE l = 0 := by
  unfold spansE
  rw [if_neg (by omega), if_pos]
  exact okFrom_iff.2 (fun j s _ _ hs => okS_iff.2 (h2 j s hs))

/-- the threshold of a level -/
def thr (n : Int) : Int := ((two56 - keptAt n.toNat : Nat) : Int)
/-- what is kept with the random value r -/
def keptL (l : List (Int × Int)) (r : Int) : List Bool := l.map (fun s => decide (thr s.2 ≤ r))
theorem keptL_get {l : List (Int × Int)} {r : Int} {i : Nat} {s : Int × Int} (h : l[i]? = some s) : (keptL l r)[i]? = some (decide (thr s.2 ≤ r)) := by
  simp [keptL, h]
/-- is the parent of every kept one kept? -/
def WholeP (l : List (Int × Int)) (K : List Bool) : Prop := ∀ (i : Nat) (s : Int × Int), l[i]? = some s → K[i]? = some true → s.1 = -1 ∨ K[s.1.toNat]? = some true
/-- how many the first k, as far as they are kept, stand for -/
def countTo (l : List (Int × Int)) (K : List Bool) : Nat → Int
  | 0 => 0
  | k + 1 => countTo l K k + (match l[k]?, K[k]? with | some s, some true => ((2 ^ s.2.toNat : Nat) : Int) | _, _ => 0)
theorem countTo_yes {l : List (Int × Int)} {K : List Bool} {k : Nat} {s : Int × Int} (h : l[k]? = some s) (hK : K[k]? = some true) : countTo l K (k + 1) = countTo l K k + ((2 ^ s.2.toNat : Nat) : Int) := by
  rw [countTo, h, hK]
theorem countTo_no {l : List (Int × Int)} {K : List Bool} {k : Nat} (hK : K[k]? = some false) : countTo l K (k + 1) = countTo l K k := by
  rw [countTo, hK]
  cases l[k]? <;> simp

/-- one step of the mending: the level of span i is passed on to its parent -/
def mendStep (m : List (Int × Int)) (i : Nat) : List (Int × Int) :=
  match m[i]? with
  | none => m
  | some s => if s.1 = -1 then m else match m[s.1.toNat]? with
    | none => m
    | some p => m.set s.1.toNat (p.1, min p.2 s.2)
/-- spans n-1, n-2, .., 0 -/
def mendFrom : Nat → List (Int × Int) → List (Int × Int)
  | 0, m => m
  | n + 1, m => mendFrom n (mendStep m n)
def mendL (l : List (Int × Int)) : List (Int × Int) := mendFrom l.length l
theorem mendStep_len (m : List (Int × Int)) (i : Nat) : (mendStep m i).length = m.length := by
  unfold mendStep
  split
  · rfl
  · split
    · rfl
    · split
      · rfl
      · rw [List.length_set]
theorem mendFrom_len : ∀ (n : Nat) (m : List (Int × Int)), (mendFrom n m).length = m.length
  | 0, _ => rfl
  | n + 1, m => by rw [mendFrom, mendFrom_len n, mendStep_len]
theorem mendL_len (l : List (Int × Int)) : (mendL l).length = l.length := mendFrom_len _ _
/-- what a step leaves: everything but a level that may become less -/
theorem mendStep_get {m : List (Int × Int)} {i j : Nat} {s : Int × Int} (h : m[j]? = some s) : ∃ v, (mendStep m i)[j]? = some (s.1, v) ∧ v ≤ s.2 ∧ (v = s.2 ∨ ∃ t, m[i]? = some t ∧ t.1 ≠ -1 ∧ t.1.toNat = j ∧ v = t.2) := by
  unfold mendStep
  split
  · exact ⟨s.2, h, Int.le_refl _, Or.inl rfl⟩
  · rename_i t ht
    split
    · exact ⟨s.2, h, Int.le_refl _, Or.inl rfl⟩
    · rename_i hne
      split
      · exact ⟨s.2, h, Int.le_refl _, Or.inl rfl⟩
      · rename_i p hp
        by_cases e : t.1.toNat = j
        · subst e
          rw [h, Option.some.injEq] at hp
          subst hp
          refine ⟨min s.2 t.2, List.getElem?_set_self (List.getElem?_eq_some_iff.1 h).1, by omega, ?_⟩
          by_cases c : s.2 ≤ t.2
          · exact Or.inl (by omega)
          · exact Or.inr ⟨t, ht, hne, rfl, by omega⟩
        · exact ⟨s.2, by rw [List.getElem?_set_ne e]; exact h, Int.le_refl _, Or.inl rfl⟩
/-- the parent gets no more than the child -/
theorem mendStep_up {m : List (Int × Int)} {i : Nat} {t p : Int × Int} (ht : m[i]? = some t) (hne : t.1 ≠ -1) (hp : m[t.1.toNat]? = some p) : (mendStep m i)[t.1.toNat]? = some (p.1, min p.2 t.2) := by
  unfold mendStep
  rw [ht]
  simp only
  rw [if_neg hne, hp]
  exact List.getElem?_set_self (List.getElem?_eq_some_iff.1 hp).1
theorem mendStep_root {m : List (Int × Int)} {i : Nat} {t : Int × Int} (ht : m[i]? = some t) (h : t.1 = -1) : mendStep m i = m := by
  unfold mendStep
  rw [ht]
  simp only
  rw [if_pos h]
/-- i is part of k, or k itself: on the way up from i lies k -/
inductive Under (l : List (Int × Int)) : Nat → Nat → Prop
  | self (i : Nat) : Under l i i
  | up {i j k : Nat} {s : Int × Int} : l[i]? = some s → s.1 = (j : Int) → Under l j k → Under l i k
theorem Under.trans {l : List (Int × Int)} {i j k : Nat} (h : Under l i j) (h' : Under l j k) : Under l i k := by
  induction h with
  | self => exact h'
  | up h1 h2 _ ih => exact .up h1 h2 (ih h')
/-- what holds of the state of the mending when all spans from n on have been passed on -/
structure Mid (l m : List (Int × Int)) (n : Nat) : Prop where
  len : m.length = l.length
  get : ∀ (i : Nat) (s : Int × Int), l[i]? = some s → ∃ v, m[i]? = some (s.1, v) ∧ v ≤ s.2 ∧ ∃ (j : Nat) (t : Int × Int), Under l j i ∧ l[j]? = some t ∧ v = t.2
  closed : ∀ (i : Nat) (s p : Int × Int), n ≤ i → m[i]? = some s → s.1 ≠ -1 → m[s.1.toNat]? = some p → p.2 ≤ s.2
theorem Mid.start (l : List (Int × Int)) : Mid l l l.length :=
  ⟨rfl, fun i s h => ⟨s.2, h, Int.le_refl _, i, s, .self i, h, rfl⟩, fun i s p h hs _ _ => by have := (List.getElem?_eq_some_iff.1 hs).1; omega⟩
theorem Mid.step {l m : List (Int × Int)} {n : Nat} (hl : ∀ (i : Nat) (s : Int × Int), l[i]? = some s → -1 ≤ s.1 ∧ s.1 < (i : Int)) (hn : n < l.length) (h : Mid l m (n + 1)) : Mid l (mendStep m n) n := by
  refine ⟨(mendStep_len _ _).trans h.len, fun i s hs => ?_, fun i s p hi hs hne hp => ?_⟩
  · obtain ⟨v, h1, h2, j, t, h3, h4, h5⟩ := h.get i s hs
    obtain ⟨v', g1, g2, g3⟩ := mendStep_get (i := n) h1
    refine ⟨v', g1, by simp at g2; omega, ?_⟩
    rcases g3 with g3 | ⟨t', e1, e2, e3, e4⟩
    · exact ⟨j, t, h3, h4, by simp at g3; omega⟩
    · obtain ⟨y, hy⟩ : ∃ y, l[n]? = some y := ⟨_, List.getElem?_eq_getElem hn⟩
      obtain ⟨u, k1, k2, j2, t2, k3, k4, k5⟩ := h.get n y hy
      rw [e1, Option.some.injEq] at k1
      subst k1
      simp only at e2 e3 e4
      have := hl n y hy
      exact ⟨j2, t2, k3.trans (.up hy (show y.1 = (i : Int) by omega) (.self _)), k4, by omega⟩
  · obtain ⟨y, hy⟩ : ∃ y, l[i]? = some y := ⟨_, List.getElem?_eq_getElem (by have := (List.getElem?_eq_some_iff.1 hs).1; rw [mendStep_len, h.len] at this; exact this)⟩
    obtain ⟨u, k1, k2, _⟩ := h.get i y hy
    have hb := hl i y hy
    obtain ⟨v', g1, g2, g3⟩ := mendStep_get (i := n) k1
    rw [hs, Option.some.injEq] at g1
    subst g1
    simp only at hne hp g2 g3 ⊢
    have hj : y.1.toNat < i := by omega
    obtain ⟨q, hq⟩ : ∃ q, m[y.1.toNat]? = some q := ⟨_, List.getElem?_eq_getElem (by have := (List.getElem?_eq_some_iff.1 k1).1; omega)⟩
    obtain ⟨x1, g4, g5, _⟩ := mendStep_get (i := n) hq
    rw [hp, Option.some.injEq] at g4
    subst g4
    simp only at g5 ⊢
    -- span i itself has not turned: what turns lies below n
    have same : v' = u := by
      rcases g3 with g3 | ⟨t', e1, e2, e3, _⟩
      · exact g3
      · exfalso
        obtain ⟨z, hz⟩ : ∃ z, l[n]? = some z := ⟨_, List.getElem?_eq_getElem hn⟩
        obtain ⟨u', k1', _⟩ := h.get n z hz
        rw [e1, Option.some.injEq] at k1'
        subst k1'
        have := hl n z hz
        simp only at e2 e3
        omega
    subst same
    by_cases e : i = n
    · subst e
      have := mendStep_up k1 hne hq
      simp only at this
      rw [hp, Option.some.injEq, Prod.mk.injEq] at this
      omega
    · have := h.closed i (y.1, v') q (by omega) k1 hne hq
      simp only at this
      omega
theorem Mid.all {l : List (Int × Int)} (hl : ∀ (i : Nat) (s : Int × Int), l[i]? = some s → -1 ≤ s.1 ∧ s.1 < (i : Int)) : ∀ {n : Nat} {m : List (Int × Int)}, n ≤ l.length → Mid l m n → Mid l (mendFrom n m) 0
  | 0, _, _, h => h
  | n + 1, m, hn, h => Mid.all hl (n := n) (m := mendStep m n) (by omega) (Mid.step hl (by omega) h)
theorem mendL_mid {l : List (Int × Int)} (hl : ∀ (i : Nat) (s : Int × Int), l[i]? = some s → -1 ≤ s.1 ∧ s.1 < (i : Int)) : Mid l (mendL l) 0 := Mid.all hl (Nat.le_refl _) (Mid.start l)
/-- the mended trace is a trace -/
theorem mendL_ok {l : List (Int × Int)} (h : spansE l = 0) : spansE (mendL l) = 0 := by
  obtain ⟨h1, h2⟩ := spansE_zero h
  have hM := mendL_mid (l := l) (fun i s hs => ⟨(h2 i s hs).1, (h2 i s hs).2.1⟩)
  refine spansE_ok (by rw [mendL_len]; exact h1) (fun i s hs => ?_)
  obtain ⟨y, hy⟩ : ∃ y, l[i]? = some y := ⟨_, List.getElem?_eq_getElem (by have := (List.getElem?_eq_some_iff.1 hs).1; rw [mendL_len] at this; exact this)⟩
  obtain ⟨u, k1, k2, j, t, _, k4, k5⟩ := hM.get i y hy
  rw [hs, Option.some.injEq] at k1
  subst k1
  have := h2 i y hy
  have := h2 j t k4
  simp only
  omega
/-- nothing is left to mend in a trace whose parents have no greater level -/
theorem mendFrom_same {m : List (Int × Int)} (hc : ∀ (i : Nat) (s p : Int × Int), m[i]? = some s → s.1 ≠ -1 → m[s.1.toNat]? = some p → p.2 ≤ s.2) : ∀ n, mendFrom n m = m
  | 0 => rfl
  | n + 1 => by
    have : mendStep m n = m := by
      unfold mendStep
      split
      · rfl
      · rename_i s hs
        split
        · rfl
        · rename_i hne
          split
          · rfl
          · rename_i p hp
            have := hc n s p hs hne hp
            rw [show min p.2 s.2 = p.2 from by omega]
            obtain ⟨hlt, e⟩ := List.getElem?_eq_some_iff.1 hp
            rw [show ((p.1, p.2) : Int × Int) = p from rfl, ← e]
            exact List.set_getElem_self hlt
    rw [mendFrom, this, mendFrom_same hc n]
theorem mendL_twice {l : List (Int × Int)} (h : spansE l = 0) : mendL (mendL l) = mendL l := by
  obtain ⟨_, h2⟩ := spansE_zero h
  have hM := mendL_mid (l := l) (fun i s hs => ⟨(h2 i s hs).1, (h2 i s hs).2.1⟩)
  exact mendFrom_same (fun i s p hs hne hp => hM.closed i s p (Nat.zero_le _) hs hne hp) _
theorem keptAt_anti {a b : Nat} (h : a ≤ b) : keptAt b ≤ keptAt a := Nat.pow_le_pow_right (by decide) (by omega)
theorem thr_mono {a b : Int} (h : a ≤ b) : thr a ≤ thr b := by
  have h1 := keptAt_anti (a := a.toNat) (b := b.toNat) (by omega)
  unfold thr
  generalize keptAt a.toNat = x at *
  generalize keptAt b.toNat = y at *
  generalize two56 = z at *
  omega
theorem thr_bd (n : Int) : 0 ≤ thr n ∧ thr n < 72057594037927936 := by
  have h1 := keptAt_pos n.toNat
  unfold thr
  generalize keptAt n.toNat = x at *
  rw [two56_val]
  omega
end Span
end Go.Proofs.Ytfocmnjkoominaa
