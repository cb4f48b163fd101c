/- Pascal's triangle in one row; the document's own ranks of combinations. Mathematics alone. -/
import Derived.Test.YtanfkolcoaofdaaCombMath
namespace Go.Proofs.Ytanfkolcoaofdaa
namespace Binom

/-- the row behind t rounds, and of the next round all places above i done -/
def tri (n t i : Nat) : List Nat := (List.range (n + 2)).map (fun j => if j ≤ n then (if i < j then binom (t + 1) j else binom t j) else 0)
theorem tri_len (n t i : Nat) : (tri n t i).length = n + 2 := by simp [tri]
theorem tri_get {n t i j : Nat} (h : j < n + 2) : (tri n t i)[j]? = some (if j ≤ n then (if i < j then binom (t + 1) j else binom t j) else 0) := by simp [tri, h]
theorem tri_set {n t i : Nat} (h : i < n) : (tri n t (i + 1)).set (i + 1) (binom t (i + 1) + binom t i) = tri n t i := by
  apply List.ext_getElem?
  intro j
  by_cases hj : j < n + 2
  · by_cases e : j = i + 1
    · subst e
      rw [List.getElem?_set_self (by rw [tri_len]; exact hj), tri_get hj, if_pos (by omega), if_pos (by omega), succ_succ, Nat.add_comm]
    · rw [List.getElem?_set_ne (by omega), tri_get hj, tri_get hj]
      by_cases h1 : j ≤ n
      · rw [if_pos h1, if_pos h1]
        by_cases h2 : i + 1 < j
        · rw [if_pos h2, if_pos (by omega)]
        · rw [if_neg h2, if_neg (by omega)]
      · rw [if_neg h1, if_neg h1]
  · rw [List.getElem?_eq_none (by rw [List.length_set, tri_len]; omega), List.getElem?_eq_none (by rw [tri_len]; omega)]
theorem tri_next (n t : Nat) : tri n t 0 = tri n (t + 1) n := by
  apply List.ext_getElem?
  intro j
  by_cases hj : j < n + 2
  · rw [tri_get hj, tri_get hj]
    by_cases h1 : j ≤ n
    · rw [if_pos h1, if_pos h1, if_neg (by omega : ¬ n < j)]
      by_cases h2 : 0 < j
      · rw [if_pos h2]
      · obtain rfl : j = 0 := by omega
        rw [if_neg h2, zero_right, zero_right]
    · rw [if_neg h1, if_neg h1]
  · rw [List.getElem?_eq_none (by rw [tri_len]; omega), List.getElem?_eq_none (by rw [tri_len]; omega)]
theorem tri_start (n : Nat) : (List.replicate (n + 2) (0 : Nat)).set 0 1 = tri n 0 n := by
  apply List.ext_getElem?
  intro j
  by_cases hj : j < n + 2
  · rw [tri_get hj]
    cases j with
    | zero => rw [List.getElem?_set_self (by simp), if_pos (by omega), if_neg (by omega), zero_right]
    | succ j =>
      rw [List.getElem?_set_ne (by omega), List.getElem?_replicate, if_pos hj, zero_succ]
      split
      · rw [if_neg (by omega)]
      · rfl
  · rw [List.getElem?_eq_none (by simp; omega), List.getElem?_eq_none (by rw [tri_len]; omega)]
theorem nn_get {m : List Nat} {i x : Nat} (h : m[i]? = some x) : (nn m)[i]? = some (x : Int) := by
  unfold nn
  rw [List.getElem?_map, h]
  rfl
theorem nn_set (m : List Nat) (i x : Nat) : (nn m).set i (x : Int) = nn (m.set i x) := by
  unfold nn
  rw [List.map_set]
theorem nn_zero (n : Nat) : List.replicate n (0 : Int) = nn (List.replicate n 0) := by
  unfold nn
  rw [List.map_replicate]
  rfl
theorem nn_take (m : List Nat) (k : Nat) : (nn m).take k = nn (m.take k) := by
  unfold nn
  rw [List.map_take]
theorem someOf_top {k x q : Nat} (hx : x ≤ 30) (h : q < binom x k) : someOf k x q = someOf k 30 q := by
  have h1 := someOf_rising k x q h
  have h2 := rank_some k x q h
  have h3 : rising 30 (someOf k x q) := by
    obtain ⟨a, b⟩ := (rising_iff _ _).1 h1
    exact (rising_iff _ _).2 ⟨a, fun y hy => Nat.lt_of_lt_of_le (b y hy) hx⟩
  have h4 := (some_rank k 30 _ (someOf_len k x q) h3).2
  rw [h2] at h4
  exact h4.symm
theorem some_step {j r x : Nat} (hr : r < binom 30 (j + 1)) (h1 : binom x (j + 1) ≤ r) (h2 : r - binom x (j + 1) < binom x j) : x < 30 ∧ someOf (j + 1) 30 r = someOf j 30 (r - binom x (j + 1)) ++ [x] := by
  have hx : x < 30 := by
    rcases Nat.lt_or_ge x 30 with h | h
    · exact h
    · exact absurd (mono (j + 1) h) (by omega)
  have hl : lastOf (j + 1) r (30 - 1) = x := lastOf_uniq (by omega) h1 (by rw [succ_succ]; omega)
  refine ⟨hx, ?_⟩
  rw [someOf, hl, someOf_top (by omega) h2]
theorem rising_ge {top : Nat} {m : List Nat} (h : rising top m) : ∀ (i x : Nat), m[i]? = some x → i ≤ x
  | 0, _, _ => Nat.zero_le _
  | i + 1, x, hx => by
    obtain ⟨hi, rfl⟩ := List.getElem?_eq_some_iff.1 hx
    have h1 := rising_ge h i m[i] (List.getElem?_eq_getElem (by omega))
    have h2 := List.pairwise_iff_getElem.1 ((rising_iff _ _).1 h).1 i (i + 1) (by omega) hi (by omega)
    omega
theorem rising_take {top : Nat} {m : List Nat} (h : rising top m) (k : Nat) : rising top (m.take k) := by
  obtain ⟨a, b⟩ := (rising_iff _ _).1 h
  exact (rising_iff _ _).2 ⟨a.sublist (List.take_sublist k m), fun y hy => b y (List.take_subset k m hy)⟩

end Binom
end Go.Proofs.Ytanfkolcoaofdaa
