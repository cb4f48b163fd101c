/- Sets of numbers below n, what is first of them, and of two together. Mathematics alone. -/
import Derived.Test.YtoijeafhohcbdaaThings
import Derived.Test.YtoijeafhohcbdaaAlikeMath
namespace Go.Proofs.Ytoijeafhohcbdaa
open Go.ChangeShapes Go.WideShapes Go.ChangeAt Go.RowKit
open Digit Alk
theorem withI_self {x : Int} {n : Nat} (hn : n ≤ 12) (h0 : 0 ≤ x) (h1 : x < n) : withI x n = x := by
  unfold withI
  rw [Int.emod_eq_of_lt (a := x) h0 (by omega), Int.emod_eq_of_lt h0 h1]
theorem things_good {l : List Int} {n : Nat} {o : List Int} (ho : o.length = n) (h12 : n ≤ 12) (hok : Ok o) (hne : thingsL l n ≠ []) : firstE o (thingsL l n) = 0 := by
  unfold firstE
  rw [checkD_ok (by omega) hok, if_neg (by decide), ho]
  exact setE_ok (thingsL_len l n) hne (thingsL_up l n) (fun y hy => (thingsL_mem.1 hy).1)
theorem things_both {A B : List Int} {n : Nat} (hn : n ≤ 12) (hA : ∀ z ∈ A, 0 ≤ z ∧ z < (n : Int)) (hB : ∀ z ∈ B, 0 ≤ z ∧ z < (n : Int)) (z : Int) : z ∈ thingsL (A ++ B) n ↔ z ∈ A ∨ z ∈ B := by
  rw [thingsL_mem, List.mem_map]
  constructor
  · rintro ⟨_, x, hx, rfl⟩
    rcases List.mem_append.1 hx with h | h
    · rw [withI_self hn (hA x h).1 (hA x h).2]; exact Or.inl h
    · rw [withI_self hn (hB x h).1 (hB x h).2]; exact Or.inr h
  · rintro (h | h)
    · exact ⟨hA z h, z, List.mem_append.2 (Or.inl h), withI_self hn (hA z h).1 (hA z h).2⟩
    · exact ⟨hB z h, z, List.mem_append.2 (Or.inr h), withI_self hn (hB z h).1 (hB z h).2⟩
theorem first_within {o A C : List Int} (ho : Ok o) (hA : ∀ y ∈ A, 0 ≤ y ∧ y < o.length) (hsub : ∀ y ∈ A, y ∈ C) (hz : firstV o C ∈ A) : firstV o A = firstV o C :=
  firstV_uniq ho hA hz (fun y hy => (firstV_spec (o := o) (by intro h; rw [h] at hsub; exact absurd (hsub y hy) (by simp))).2 y (hsub y hy))
end Go.Proofs.Ytoijeafhohcbdaa
