/- What Check of permutations answers, as a function on lists. Mathematics alone. -/
import Derived.Test.YtffgoekdjcempabDigitMath
namespace Go.Proofs.Ytffgoekdjcempab
namespace Digit

/-- what is wrong with the numbers behind A: 1 out of range, 5 there already -/
def goD (n : Nat) : List Int → List Int → Int
  | _, [] => 0
  | A, x :: r => if x < 0 ∨ (n : Int) ≤ x then 1 else if x ∈ A then 5 else goD n (A ++ [x]) r
def checkD (l : List Int) : Int := if 12 < l.length then 2 else goD l.length [] l
theorem goD_zero (n : Nat) : ∀ (r A : List Int), goD n A r = 0 → (∀ x ∈ r, 0 ≤ x ∧ x < n) ∧ r.Nodup ∧ ∀ x ∈ r, x ∉ A
  | [], A, _ => by simp
  | x :: r, A, h => by
    rw [goD] at h
    split at h
    · cases h
    · split at h
      · cases h
      · obtain ⟨h1, h2, h3⟩ := goD_zero n r (A ++ [x]) h
        refine ⟨?_, List.nodup_cons.2 ⟨fun hx => h3 x hx (by simp), h2⟩, ?_⟩
        · intro y hy
          rcases List.mem_cons.1 hy with rfl | hy
          · omega
          · exact h1 y hy
        · intro y hy
          rcases List.mem_cons.1 hy with rfl | hy
          · assumption
          · exact fun hm => h3 y hy (by simp [hm])
theorem goD_ok (n : Nat) : ∀ (r A : List Int), (∀ x ∈ r, 0 ≤ x ∧ x < n) → r.Nodup → (∀ x ∈ r, x ∉ A) → goD n A r = 0
  | [], _, _, _, _ => rfl
  | x :: r, A, h1, h2, h3 => by
    have a := h1 x (by simp)
    rw [goD, if_neg (by omega), if_neg (h3 x (by simp))]
    refine goD_ok n r (A ++ [x]) (fun y hy => h1 y (by simp [hy])) (List.nodup_cons.1 h2).2 (fun y hy hm => ?_)
    rcases List.mem_append.1 hm with hm | hm
    · exact h3 y (by simp [hy]) hm
    · simp at hm
      subst hm
      exact (List.nodup_cons.1 h2).1 hy
theorem checkD_zero {l : List Int} (h : checkD l = 0) : l.length ≤ 12 ∧ Ok l := by
  unfold checkD at h
  split at h
  · cases h
  · obtain ⟨h1, h2, _⟩ := goD_zero _ l _ h
    exact ⟨by omega, h2, h1⟩
theorem checkD_ok {l : List Int} (h : l.length ≤ 12) (hk : Ok l) : checkD l = 0 := by
  unfold checkD
  rw [if_neg (by omega)]
  exact goD_ok _ l [] hk.2 hk.1 (by simp)
theorem goD_step {n : Nat} {l : List Int} {k : Nat} {x : Int} (hx : l[k]? = some x) : goD n (l.take k) (l.drop k) = if x < 0 ∨ (n : Int) ≤ x then 1 else if x ∈ l.take k then 5 else goD n (l.take (k + 1)) (l.drop (k + 1)) := by
  obtain ⟨hk, rfl⟩ := List.getElem?_eq_some_iff.1 hx
  have e : l.take (k + 1) = l.take k ++ [l[k]] := by rw [List.take_add_one, hx]; rfl
  rw [e]
  conv => lhs; rw [List.drop_eq_getElem_cons hk, goD]
/-- the rank so far, as the program reckons it -/
def rankTo (l : List Int) : Nat → Nat
  | 0 => 0
  | k + 1 => rankTo l k * (l.length - k) + less ((l[k]?).getD 0) (l.drop (k + 1))
theorem rankTo_eq (l : List Int) : ∀ k, k ≤ l.length → rankTo l k * fact (l.length - k) + rankOf (l.drop k) = rankOf l
  | 0, _ => by rw [rankTo, Nat.zero_mul, Nat.zero_add, List.drop_zero]
  | k + 1, h => by
    have ih := rankTo_eq l k (by omega)
    have hk : k < l.length := by omega
    rw [List.drop_eq_getElem_cons hk, rankOf, List.length_drop] at ih
    have e : l.length - k = l.length - (k + 1) + 1 := by omega
    rw [rankTo, List.getElem?_eq_getElem hk, Option.getD_some, Nat.add_mul]
    rw [e, fact, ← Nat.mul_assoc] at ih
    rw [e]
    omega
theorem rankTo_all (l : List Int) : rankTo l l.length = rankOf l := by
  have h := rankTo_eq l l.length (Nat.le_refl _)
  rw [Nat.sub_self, List.drop_length] at h
  simp [fact, rankOf] at h
  exact h
theorem rankTo_le {l : List Int} (hl : l.length ≤ 12) (hr : rankOf l ≤ 479001600) {k : Nat} (hk : k ≤ l.length) : rankTo l k ≤ 479001600 := by
  have h := rankTo_eq l k hk
  have h2 : rankTo l k ≤ rankTo l k * fact (l.length - k) := Nat.le_mul_of_pos_right _ (fact_pos _)
  omega
/-- what Rank and Order answer -/
def orderP (n r : Int) : List Int × Int :=
  if n < 0 ∨ 12 < n then ([], 1) else if r < 0 ∨ (fact n.toNat : Int) ≤ r then ([], 4) else (orderOf n.toNat r.toNat, 0)
theorem orderP_ok {n r : Nat} (hn : n ≤ 12) (hr : r < fact n) : orderP n r = (orderOf n r, 0) := by
  unfold orderP
  rw [if_neg (by omega), if_neg (by rw [Int.toNat_natCast]; omega), Int.toNat_natCast, Int.toNat_natCast]

end Digit
end Go.Proofs.Ytffgoekdjcempab
