/- All draws for n numbers, one behind the other, and what each deals (n at most 6): each order just once. Mathematics alone. -/
import Derived.Test.YtanfkolcoaofdaaDigitCheck
namespace Go.Proofs.Ytanfkolcoaofdaa
namespace Digit

/-- the t-th draws: digit i is below i + 1 -/
def dig (t i : Nat) : Nat := t / fact i % (i + 1)
def vec (n t : Nat) : List Nat := (List.range n).map (dig t)
def vecI (n t : Nat) : List Int := (List.range n).map (fun i => (dig t i : Int))
/-- the same with the first i places back at nought -/
def mid (n t i : Nat) : List Int := (List.range n).map (fun j => if j < i then 0 else (dig t j : Int))
theorem vecI_len (n t : Nat) : (vecI n t).length = n := by simp [vecI]
theorem mid_len (n t i : Nat) : (mid n t i).length = n := by simp [mid]
theorem mid_zero (n t : Nat) : mid n t 0 = vecI n t := by simp [mid, vecI]
theorem vecI_get {n t i : Nat} (h : i < n) : (vecI n t)[i]? = some (dig t i : Int) := by simp [vecI, h]
theorem mid_get {n t i j : Nat} (h : j < n) : (mid n t i)[j]? = some (if j < i then 0 else (dig t j : Int)) := by simp [mid, h]
theorem dig_le (t i : Nat) : dig t i ≤ i := Nat.le_of_lt_succ (Nat.mod_lt _ (by omega))
theorem vecI_ok (n t : Nat) : DrawsOk (vecI n t) := by
  intro i x hx
  have hi : i < n := by have := (List.getElem?_eq_some_iff.1 hx).1; rwa [vecI_len] at this
  rw [vecI_get hi] at hx
  obtain rfl := Option.some.inj hx
  have := dig_le t i
  omega
theorem mid_set {n t i : Nat} (h : i < n) : (mid n t i).set i 0 = mid n t (i + 1) := by
  apply List.ext_getElem?
  intro j
  by_cases hj : j < n
  · by_cases e : j = i
    · subst e
      rw [List.getElem?_set_self (by rw [mid_len]; exact hj), mid_get hj, if_pos (by omega)]
    · rw [List.getElem?_set_ne (by omega), mid_get hj, mid_get hj]
      by_cases h2 : j < i
      · rw [if_pos h2, if_pos (by omega)]
      · rw [if_neg h2, if_neg (by omega)]
  · rw [List.getElem?_eq_none (by rw [List.length_set, mid_len]; omega), List.getElem?_eq_none (by rw [mid_len]; omega)]
/-- the first i digits stand at their greatest -/
def full (t i : Nat) : Bool := (List.range i).all (fun j => dig t j == j)
theorem full_zero (t : Nat) : full t 0 = true := rfl
theorem full_succ (t i : Nat) : full t (i + 1) = (full t i && (dig t i == i)) := by
  unfold full
  rw [List.range_succ, List.all_append]
  simp
/-- the next draws: i is the first digit that may grow -/
def stepOk (n t i : Nat) : Bool := !(full t i && !(dig t i == i)) || ((mid n t i).set i ((dig t i : Int) + 1) == vecI n (t + 1) && decide (t + 1 < fact n))
def endOk (n t : Nat) : Bool := !(full t n) || decide (t + 1 = fact n)
def stepsOk (n : Nat) : Bool := (List.range (fact n)).all (fun t => (List.range n).all (fun i => stepOk n t i) && endOk n t)
theorem steps_all : (List.range 7).all stepsOk = true := by decide +kernel
theorem step_next {n t i : Nat} (hn : n < 7) (ht : t < fact n) (hi : i < n) (hf : full t i = true) (hd : dig t i ≠ i) : (mid n t i).set i ((dig t i : Int) + 1) = vecI n (t + 1) ∧ t + 1 < fact n := by
  have h1 := List.all_eq_true.1 steps_all n (List.mem_range.2 hn)
  have h2 := List.all_eq_true.1 h1 t (List.mem_range.2 ht)
  rw [Bool.and_eq_true] at h2
  have h3 := List.all_eq_true.1 h2.1 i (List.mem_range.2 hi)
  unfold stepOk at h3
  rw [hf, show (dig t i == i) = false from by simpa using hd] at h3
  simp at h3
  exact h3
theorem step_end {n t : Nat} (hn : n < 7) (ht : t < fact n) (hf : full t n = true) : t + 1 = fact n := by
  have h1 := List.all_eq_true.1 steps_all n (List.mem_range.2 hn)
  have h2 := List.all_eq_true.1 h1 t (List.mem_range.2 ht)
  rw [Bool.and_eq_true] at h2
  have h3 := h2.2
  unfold endOk at h3
  rw [hf] at h3
  simpa using h3
/-- the rank of what the t-th draws deal -/
def rk (n t : Nat) : Nat := rankOf (dealTo (rowOf n) (vecI n t) n)
def mark1 (p : Bool × Nat) (r : Nat) : Bool × Nat := (p.1 && !(p.2.testBit r), p.2 ||| (1 <<< r))
def markAll (f : Nat → Nat) : Nat → Bool × Nat
  | 0 => (true, 0)
  | t + 1 => mark1 (markAll f t) (f t)
theorem mark_bits (f : Nat → Nat) : ∀ (N r : Nat), (markAll f N).2.testBit r = true ↔ ∃ s, s < N ∧ f s = r
  | 0, r => by simp [markAll]
  | N + 1, r => by
    rw [markAll, mark1, Nat.testBit_or, Bool.or_eq_true, mark_bits f N r]
    rw [show (1 <<< f N).testBit r = decide (f N = r) from by rw [Nat.one_shiftLeft]; exact Nat.testBit_two_pow]
    constructor
    · rintro (⟨s, h1, h2⟩ | h)
      · exact ⟨s, by omega, h2⟩
      · exact ⟨N, by omega, by simpa using h⟩
    · rintro ⟨s, h1, h2⟩
      by_cases e : s = N
      · subst e; right; simpa using h2
      · left; exact ⟨s, by omega, h2⟩
theorem mark_apart (f : Nat → Nat) : ∀ (N : Nat), (markAll f N).1 = true → ∀ s t, s < t → t < N → f s ≠ f t
  | 0, _, s, t, _, ht => by omega
  | N + 1, h, s, t, hst, ht => by
    rw [markAll, mark1, Bool.and_eq_true] at h
    by_cases e : t = N
    · subst e
      intro hf
      have := (mark_bits f t (f t)).2 ⟨s, hst, hf⟩
      rw [this] at h
      simp at h
    · exact mark_apart f N h.1 s t hst (by omega)
theorem ranks_apart : (List.range 7).all (fun n => (markAll (rk n) (fact n)).1) = true := by decide +kernel
theorem rk_apart {n s t : Nat} (hn : n < 7) (hst : s < t) (ht : t < fact n) : rk n s ≠ rk n t :=
  mark_apart (rk n) (fact n) (List.all_eq_true.1 ranks_apart n (List.mem_range.2 hn)) s t hst ht

end Digit
end Go.Proofs.Ytanfkolcoaofdaa
