/- Registers: what is wrong with a list of them, what is put and joined. Mathematics alone. -/
import Derived.Lib.BitFns
namespace Go.Proofs.Ytffgoekdjcempab
open Go.Lib
namespace Regs

def badR (n : Int) : Bool := decide (n < 0) || decide (57 < n)
theorem badR_not (n : Int) : (!(decide (0 ≤ n) && decide (n ≤ 57))) = badR n := by
  unfold badR
  by_cases h1 : 0 ≤ n
  · rw [decide_eq_true h1, decide_eq_false (by omega : ¬ n < 0), Bool.true_and, Bool.false_or]
    by_cases h2 : n ≤ 57
    · rw [decide_eq_true h2, decide_eq_false (by omega)]; rfl
    · rw [decide_eq_false h2, decide_eq_true (by omega)]; rfl
  · rw [decide_eq_false h1, decide_eq_true (by omega : n < 0)]; rfl
/-- may there be so many registers? -/
def lenR (n : Nat) : Bool := n == 1 || n == 2 || n == 4 || n == 8 || n == 16
theorem lenR_mem {n : Nat} : lenR n = true ↔ (n : Int) ∈ ([1, 2, 4, 8, 16] : List Int) := by
  unfold lenR
  simp only [Bool.or_eq_true, beq_iff_eq, List.mem_cons, List.not_mem_nil, or_false]
  omega
theorem lenR_pos {n : Nat} (h : lenR n = true) : 1 ≤ n ∧ n ≤ 16 := by
  unfold lenR at h
  simp only [Bool.or_eq_true, beq_iff_eq] at h
  omega
/-- what is wrong with a list of registers -/
def regE (l : List Int) : Int := if lenR l.length = true then (if l.any badR = true then 1 else 0) else 7
theorem regE_zero {l : List Int} : regE l = 0 ↔ lenR l.length = true ∧ ∀ x ∈ l, 0 ≤ x ∧ x ≤ 57 := by
  unfold regE
  constructor
  · intro h
    split at h
    · rename_i h1
      split at h
      · cases h
      · rename_i h2
        refine ⟨h1, fun x hx => ?_⟩
        have h3 : badR x = false := by
          cases hb : badR x with
          | false => rfl
          | true => exact absurd (List.any_eq_true.2 ⟨x, hx, hb⟩) h2
        unfold badR at h3
        rw [Bool.or_eq_false_iff, decide_eq_false_iff_not, decide_eq_false_iff_not] at h3
        omega
    · cases h
  · rintro ⟨h1, h2⟩
    rw [if_pos h1, if_neg]
    intro h3
    obtain ⟨x, hx, hb⟩ := List.any_eq_true.1 h3
    have := h2 x hx
    unfold badR at hb
    rw [Bool.or_eq_true, decide_eq_true_iff, decide_eq_true_iff] at hb
    omega
/-- the noughts ahead of a random value's share, and one more -/
def noughtsR (n of : Int) : Int := 57 - ((bitLen (n / of).toNat : Nat) : Int)
theorem half_len {x : Nat} (h0 : x ≠ 0) (h : x < 2 ^ 64) : bitLen x = bitLen (x / 2) + 1 := by rw [bitLen_half x h0 h, Nat.add_comm]
theorem len_zero : bitLen 0 = 0 := rfl
theorem len_most {x : Nat} (h : x < 2 ^ 63) : bitLen x ≤ 63 := bitLen_le x 63 (by decide) h
/-- what a value changes -/
def putR (l : List Int) (n : Int) : List Int :=
  let k := (n % (l.length : Int)).toNat
  l.set k (max (l.getD k 0) (noughtsR n l.length))
/-- the greater of each pair -/
def joinR (a b : List Int) : List Int := List.zipWith max a b
/-- is none greater than that of the other list? -/
def fitR (a b : List Int) : Bool := (List.zipWith (fun x y => decide (x ≤ y)) a b).all id
end Regs
end Go.Proofs.Ytffgoekdjcempab
