/- All draws for a reservoir of k of n items, one behind the other, and the set that each leaves (k at most 3, n at most 6): each set equally often. Mathematics alone. -/
import Derived.Test.YtfndahcihmpmhaaPondPut
import Derived.Test.YtfndahcihmpmhaaBinomMath
import Derived.Test.YtfndahcihmpmhaaDigitMath
import Derived.Test.YtfndahcihmpmhaaIntCount
namespace Go.Proofs.Ytfndahcihmpmhaa
namespace PondMath
open Digit

/-- how many draws there are for item i -/
def bnd (k i : Nat) : Nat := if i < k then 1 else i + 1
def bndL (k n : Nat) : List Int := (List.range n).map (fun i => (bnd k i : Int))
/-- how many draws there are for the first i items -/
def wide (k : Nat) : Nat → Nat
  | 0 => 1
  | i + 1 => wide k i * bnd k i
def dig (k t i : Nat) : Nat := t / wide k i % bnd k i
def vec (k n t : Nat) : List Int := (List.range n).map (fun i => (dig k t i : Int))
/-- the same with the first i places back at nought -/
def mid (k n t i : Nat) : List Int := (List.range n).map (fun j => if j < i then 0 else (dig k t j : Int))
/-- the items behind the first j draws -/
def items (k t : Nat) : Nat → List Int
  | 0 => []
  | j + 1 => pondL k (j : Nat) (items k t j) (j : Nat) (dig k t j)
/-- a set of items as a number -/
def code : List Int → Nat
  | [] => 0
  | x :: l => code l ||| (1 <<< x.toNat)
/-- the set that the t-th draws leave, as a number -/
def left (k n t : Nat) : Nat := code (items k t n).reverse
def codes (k n : Nat) : Nat → List Int
  | 0 => []
  | t + 1 => (left k n t : Int) :: codes k n t
def tally (k n d : Nat) : Nat → Nat
  | 0 => 0
  | t + 1 => tally k n d t + (if left k n t = d then 1 else 0)
theorem count_codes (k n d : Nat) : ∀ t, (codes k n t).count (d : Int) = tally k n d t
  | 0 => rfl
  | t + 1 => by
    rw [codes, tally, List.count_cons, count_codes k n d t]
    by_cases e : left k n t = d
    · rw [if_pos e, e]; simp
    · rw [if_neg e]
      have : ((left k n t : Int) == (d : Int)) = false := by rw [beq_eq_false_iff_ne]; omega
      rw [this]; rfl
def ones : Nat → Nat → Nat
  | 0, _ => 0
  | f + 1, c => c % 2 + ones f (c / 2)
/-- the numbers of all sets of k of n items -/
def sets (k n : Nat) : List Nat := (List.range (2 ^ n)).filter (fun c => ones 6 c == k)
def goodB (k n : Nat) : Bool := (sets k n).all (fun d => tally k n d (wide k n) == fact (n - k)) && (List.range (wide k n)).all (fun t => (sets k n).contains (left k n t))
def pairs : List (Nat × Nat) := [(1, 1), (1, 2), (1, 3), (1, 4), (1, 5), (1, 6), (2, 2), (2, 3), (2, 4), (2, 5), (2, 6), (3, 3), (3, 4), (3, 5), (3, 6)]
theorem all_good : (pairs.all fun p => goodB p.1 p.2) = true := by decide +kernel
theorem bnd_pos (k i : Nat) : 0 < bnd k i := by unfold bnd; split <;> omega
theorem dig_lt (k t i : Nat) : dig k t i < bnd k i := Nat.mod_lt _ (bnd_pos k i)
theorem dig_le (k t i : Nat) : dig k t i ≤ i := by have := dig_lt k t i; unfold bnd at this; split at this <;> omega
theorem vec_len (k n t : Nat) : (vec k n t).length = n := by simp [vec]
theorem vec_get {k n t i : Nat} (h : i < n) : (vec k n t)[i]? = some (dig k t i : Int) := by simp [vec, h]
theorem mid_len (k n t i : Nat) : (mid k n t i).length = n := by simp [mid]
theorem mid_zero (k n t : Nat) : mid k n t 0 = vec k n t := by simp [mid, vec]
theorem mid_get {k n t i j : Nat} (h : j < n) : (mid k n t i)[j]? = some (if j < i then 0 else (dig k t j : Int)) := by simp [mid, h]
theorem mid_set {k n t i : Nat} (h : i < n) : (mid k n t i).set i 0 = mid k n t (i + 1) := by
  apply List.ext_getElem?
  intro j
  by_cases hj : j < n
  · by_cases e : j = i
    · subst e
      rw [List.getElem?_set_self (by rw [mid_len]; exact hj), mid_get hj, if_pos (by omega)]
    · rw [List.getElem?_set_ne (by omega), mid_get hj, mid_get hj]
      by_cases h2 : j < i
      · rw [if_pos h2, if_pos (by omega)]
      · rw [if_neg h2, if_neg (by omega)]
  · rw [List.getElem?_eq_none (by rw [List.length_set, mid_len]; omega), List.getElem?_eq_none (by rw [mid_len]; omega)]
/-- the first i digits stand at their greatest -/
def full (k t i : Nat) : Bool := (List.range i).all (fun j => dig k t j + 1 == bnd k j)
theorem full_succ (k t i : Nat) : full k t (i + 1) = (full k t i && (dig k t i + 1 == bnd k i)) := by
  unfold full
  rw [List.range_succ, List.all_append]
  simp
def stepOk (k n t i : Nat) : Bool := !(full k t i && !(dig k t i + 1 == bnd k i)) || ((mid k n t i).set i ((dig k t i : Int) + 1) == vec k n (t + 1) && decide (t + 1 < wide k n))
def endOk (k n t : Nat) : Bool := !(full k t n) || decide (t + 1 = wide k n)
def stepsOk (k n : Nat) : Bool := (List.range (wide k n)).all (fun t => (List.range n).all (fun i => stepOk k n t i) && endOk k n t)
theorem steps_all : (pairs.all fun p => stepsOk p.1 p.2) = true := by decide +kernel
theorem step_next {k n t i : Nat} (hp : (k, n) ∈ pairs) (ht : t < wide k n) (hi : i < n) (hf : full k t i = true) (hd : dig k t i + 1 ≠ bnd k i) : (mid k n t i).set i ((dig k t i : Int) + 1) = vec k n (t + 1) ∧ t + 1 < wide k n := by
  have h1 := List.all_eq_true.1 steps_all (k, n) hp
  have h2 := List.all_eq_true.1 h1 t (List.mem_range.2 ht)
  rw [Bool.and_eq_true] at h2
  have h3 := List.all_eq_true.1 h2.1 i (List.mem_range.2 hi)
  unfold stepOk at h3
  rw [hf, show (dig k t i + 1 == bnd k i) = false from by simpa using hd] at h3
  simp at h3
  exact h3
theorem step_end {k n t : Nat} (hp : (k, n) ∈ pairs) (ht : t < wide k n) (hf : full k t n = true) : t + 1 = wide k n := by
  have h1 := List.all_eq_true.1 steps_all (k, n) hp
  have h2 := List.all_eq_true.1 h1 t (List.mem_range.2 ht)
  rw [Bool.and_eq_true] at h2
  have h3 := h2.2
  unfold endOk at h3
  rw [hf] at h3
  simpa using h3
theorem items_len (k t : Nat) : ∀ j, (items k t j).length = min k j
  | 0 => by simp [items]
  | j + 1 => by
    have := items_len k t j
    unfold items pondL
    split
    · rw [List.length_append, this]; simp; omega
    · split
      · rw [List.length_set, this]; omega
      · rw [this]; omega
theorem items_bd (k t : Nat) : ∀ j, ∀ x ∈ items k t j, 0 ≤ x ∧ x < (j : Int)
  | 0, x, hx => by simp [items] at hx
  | j + 1, x, hx => by
    have ih := items_bd k t j
    unfold items pondL at hx
    split at hx
    · rcases List.mem_append.1 hx with h | h
      · have := ih x h; omega
      · have := List.mem_singleton.1 h; omega
    · split at hx
      · rcases List.mem_or_eq_of_mem_set hx with h | h
        · have := ih x h; omega
        · omega
      · have := ih x hx; omega
theorem codes_len (k n : Nat) : ∀ t, (codes k n t).length = t
  | 0 => rfl
  | t + 1 => by rw [codes, List.length_cons, codes_len k n t]
theorem code_lt {n : Nat} : ∀ (l : List Int), (∀ x ∈ l, 0 ≤ x ∧ x < (n : Int)) → code l < 2 ^ n
  | [], _ => Nat.two_pow_pos n
  | x :: l, h => by
    have h1 := code_lt l (fun y hy => h y (List.mem_cons_of_mem _ hy))
    have hx := h x (by simp)
    rw [code]
    refine Nat.or_lt_two_pow h1 ?_
    rw [Nat.one_shiftLeft]
    exact Nat.pow_lt_pow_right (by decide) (by omega)
theorem pairs_small {k n : Nat} (h : (k, n) ∈ pairs) : 1 ≤ k ∧ k ≤ 3 ∧ k ≤ n ∧ n ≤ 6 ∧ wide k n ≤ 720 := by
  have : (pairs.all fun p => decide (1 ≤ p.1 ∧ p.1 ≤ 3 ∧ p.1 ≤ p.2 ∧ p.2 ≤ 6 ∧ wide p.1 p.2 ≤ 720)) = true := by decide +kernel
  exact of_decide_eq_true (List.all_eq_true.1 this (k, n) h)
/-- which numbers have come, as bits -/
def maskTo (k n : Nat) : Nat → Nat
  | 0 => 0
  | t + 1 => maskTo k n t ||| (1 <<< left k n t)
def kindTo (k n : Nat) : Nat → Nat
  | 0 => 0
  | t + 1 => if (maskTo k n t).testBit (left k n t) = true then kindTo k n t else kindTo k n t + 1
theorem mask_bits (k n : Nat) : ∀ (t r : Nat), (maskTo k n t).testBit r = true ↔ (r : Int) ∈ codes k n t
  | 0, r => by simp [maskTo, codes]
  | t + 1, r => by
    rw [maskTo, Nat.testBit_or, Bool.or_eq_true, mask_bits k n t r, codes, List.mem_cons]
    rw [show (1 <<< left k n t).testBit r = decide (left k n t = r) from by rw [Nat.one_shiftLeft]; exact Nat.testBit_two_pow]
    constructor
    · rintro (h | h)
      · exact Or.inr h
      · left; have := of_decide_eq_true h; omega
    · rintro (h | h)
      · right; exact decide_eq_true (by omega)
      · exact Or.inl h
theorem kinds_codes (k n : Nat) : ∀ t, kinds (codes k n t) = kindTo k n t
  | 0 => rfl
  | t + 1 => by
    rw [codes, kinds, kindTo, kinds_codes k n t]
    by_cases e : (maskTo k n t).testBit (left k n t) = true
    · rw [if_pos e, if_pos ((mask_bits k n t _).1 e)]
    · rw [if_neg e, if_neg (fun h => e ((mask_bits k n t _).2 h))]
theorem kinds_good : (pairs.all fun p => kindTo p.1 p.2 (wide p.1 p.2) == Binom.binom p.2 p.1) = true := by decide +kernel
/-- there are as many sets as there are ways, and each comes equally often -/
theorem kinds_all {k n : Nat} (h : (k, n) ∈ pairs) : kinds (codes k n (wide k n)) = Binom.binom n k := by
  rw [kinds_codes]
  exact eq_of_beq (List.all_eq_true.1 kinds_good (k, n) h)
theorem codes_mem {k n : Nat} {z : Int} : ∀ {t : Nat}, z ∈ codes k n t → ∃ s, s < t ∧ z = (left k n s : Int)
  | 0, h => by simp [codes] at h
  | t + 1, h => by
    rw [codes] at h
    rcases List.mem_cons.1 h with h | h
    · exact ⟨t, by omega, h⟩
    · obtain ⟨s, h1, h2⟩ := codes_mem h
      exact ⟨s, by omega, h2⟩
theorem count_all {k n : Nat} (h : (k, n) ∈ pairs) {z : Int} (hz : z ∈ codes k n (wide k n)) : (codes k n (wide k n)).count z = fact (n - k) := by
  obtain ⟨s, h1, rfl⟩ := codes_mem hz
  have hg := List.all_eq_true.1 all_good (k, n) h
  unfold goodB at hg
  rw [Bool.and_eq_true] at hg
  have h2 := List.all_eq_true.1 hg.2 s (List.mem_range.2 h1)
  have h3 := List.all_eq_true.1 hg.1 (left k n s) (List.contains_iff_mem.1 h2)
  rw [count_codes]
  exact eq_of_beq h3
end PondMath
end Go.Proofs.Ytfndahcihmpmhaa
