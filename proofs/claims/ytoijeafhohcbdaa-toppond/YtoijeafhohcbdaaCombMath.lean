/- What Check, Rank and Some of combinations answer, as functions on lists. Mathematics alone. -/
import Derived.Test.YtoijeafhohcbdaaBinomMath
namespace Go.Proofs.Ytoijeafhohcbdaa
namespace Binom

def nn (m : List Nat) : List Int := m.map (fun i : Nat => (i : Int))
theorem nn_len (m : List Nat) : (nn m).length = m.length := by simp [nn]
theorem nn_app (l m : List Nat) : nn (l ++ m) = nn l ++ nn m := by simp [nn]
theorem nn_inj {l m : List Nat} (h : nn l = nn m) : l = m := by
  unfold nn at h
  exact (List.map_inj_right (fun a b hab => by omega)).1 h
/-- what is wrong with numbers behind p: 1 out of range, 3 not rising -/
def checkGo : Int → List Int → Int
  | _, [] => 0
  | p, x :: r => if x < 0 ∨ 29 < x then 1 else if x ≤ p then 3 else checkGo x r
def checkC (l : List Int) : Int := if 30 < l.length then 2 else checkGo (-1) l
theorem checkGo_zero : ∀ (l : List Int) (p : Int), checkGo p l = 0 → (∀ x ∈ l, 0 ≤ x ∧ x < 30) ∧ l.Pairwise (· < ·) ∧ ∀ x ∈ l, p < x
  | [], p, _ => by simp
  | x :: r, p, h => by
    rw [checkGo] at h
    split at h
    · cases h
    · split at h
      · cases h
      · obtain ⟨h1, h2, h3⟩ := checkGo_zero r x h
        refine ⟨?_, List.pairwise_cons.2 ⟨h3, h2⟩, ?_⟩
        · intro y hy
          rcases List.mem_cons.1 hy with rfl | hy
          · omega
          · exact h1 y hy
        · intro y hy
          rcases List.mem_cons.1 hy with rfl | hy
          · omega
          · have := h3 y hy; omega
theorem checkGo_ok : ∀ (l : List Int) (p : Int), (∀ x ∈ l, 0 ≤ x ∧ x < 30) → l.Pairwise (· < ·) → (∀ x ∈ l, p < x) → checkGo p l = 0
  | [], _, _, _, _ => rfl
  | x :: r, p, h1, h2, h3 => by
    have a := h1 x (by simp)
    have b := h3 x (by simp)
    rw [checkGo, if_neg (by omega), if_neg (by omega)]
    exact checkGo_ok r x (fun y hy => h1 y (by simp [hy])) (List.pairwise_cons.1 h2).2 (List.pairwise_cons.1 h2).1
theorem checkC_zero {l : List Int} (h : checkC l = 0) : ∃ m, l = nn m ∧ m.length ≤ 30 ∧ rising 30 m := by
  unfold checkC at h
  split at h
  · cases h
  · obtain ⟨h1, h2, _⟩ := checkGo_zero l _ h
    have e : l = nn (l.map Int.toNat) := by
      unfold nn
      rw [List.map_map]
      conv => lhs; rw [← List.map_id l]
      apply List.map_congr_left
      intro x hx
      have := h1 x hx
      simp; omega
    refine ⟨l.map Int.toNat, e, by rw [List.length_map]; omega, (rising_iff _ _).2 ⟨?_, ?_⟩⟩
    · rw [List.pairwise_map]
      exact List.Pairwise.imp_of_mem (fun ha hb hab => by have := h1 _ ha; have := h1 _ hb; omega) h2
    · intro x hx
      obtain ⟨y, hy, rfl⟩ := List.mem_map.1 hx
      have := h1 y hy
      omega
theorem checkC_ok {m : List Nat} (h1 : m.length ≤ 30) (h : rising 30 m) : checkC (nn m) = 0 := by
  obtain ⟨h2, h3⟩ := (rising_iff _ _).1 h
  unfold checkC
  rw [nn_len, if_neg (by omega)]
  refine checkGo_ok _ _ ?_ ?_ ?_
  · intro x hx
    obtain ⟨y, hy, rfl⟩ := List.mem_map.1 hx
    have := h3 y hy
    omega
  · unfold nn
    rw [List.pairwise_map]
    exact h2.imp (fun h => by omega)
  · intro x hx
    obtain ⟨y, hy, rfl⟩ := List.mem_map.1 hx
    omega
/-- the number ahead of place k -/
def prevAt (l : List Int) (k : Nat) : Int := if k = 0 then -1 else (l[k - 1]?).getD 0
theorem check_step {l : List Int} {k : Nat} {x : Int} (hx : l[k]? = some x) : checkGo (prevAt l k) (l.drop k) = if x < 0 ∨ 29 < x then 1 else if x ≤ prevAt l k then 3 else checkGo (prevAt l (k + 1)) (l.drop (k + 1)) := by
  obtain ⟨hk, rfl⟩ := List.getElem?_eq_some_iff.1 hx
  rw [List.drop_eq_getElem_cons hk, checkGo]
  have e : prevAt l (k + 1) = l[k] := by unfold prevAt; rw [if_neg (by omega), Nat.add_sub_cancel, hx]; rfl
  rw [e]
def someP (k r : Int) : List Int × Int :=
  if k < 0 ∨ 30 < k then ([], 1) else if r < 0 ∨ (binom 30 k.toNat : Int) ≤ r then ([], 4) else (nn (someOf k.toNat 30 r.toNat), 0)
theorem someP_ok {k r : Nat} (hk : k ≤ 30) (hr : r < binom 30 k) : someP k r = (nn (someOf k 30 r), 0) := by
  unfold someP
  rw [if_neg (by omega), if_neg (by rw [Int.toNat_natCast]; omega), Int.toNat_natCast, Int.toNat_natCast]
theorem rank_step {m : List Nat} {k x : Nat} (h : m[k]? = some x) : rankFrom 0 (m.take (k + 1)) = rankFrom 0 (m.take k) + binom x (k + 1) := by
  have hk : k < m.length := (List.getElem?_eq_some_iff.1 h).1
  rw [List.take_add_one, h]
  show rankFrom 0 (m.take k ++ [x]) = _
  rw [rankFrom_snoc, List.length_take, Nat.zero_add, Nat.min_eq_left (by omega)]
theorem rank_part (m : List Nat) (hm : ∀ x ∈ m, x ≤ 30) : ∀ k, k ≤ m.length → rankFrom 0 (m.take k) ≤ k * 1073741824
  | 0, _ => by simp [rankFrom]
  | k + 1, h => by
    have e : m[k]? = some (m[k]'(by omega)) := List.getElem?_eq_getElem _
    rw [rank_step e]
    have h1 := rank_part m hm k (by omega)
    have h2 := le_max (k + 1) (hm _ (List.getElem_mem (show k < m.length by omega)))
    omega

end Binom
end Go.Proofs.Ytoijeafhohcbdaa
