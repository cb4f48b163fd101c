/- Lists of weights that begin with 1. Mathematics alone. -/
import Derived.Test.YtfgcmlgdgmcffabAliasSum
import Derived.Test.YtfgcmlgdgmcffabWithin
namespace Go.Proofs.Ytfgcmlgdgmcffab

def weightsM (m : Int) (l : List Int) : List Int := 1 :: l.map (fun x => withI x (m + 1))
theorem weightsM_bd {m : Int} (hm : 1 ≤ m) {l : List Int} : ∀ x ∈ weightsM m l, 0 ≤ x ∧ x ≤ m := by
  intro x hx
  rcases List.mem_cons.1 hx with rfl | hx
  · omega
  · obtain ⟨y, _, rfl⟩ := List.mem_map.1 hx
    have := withI_bd y (m + 1) (by omega)
    omega
theorem weightsM_take {m : Int} {l : List Int} {k : Nat} {x : Int} (h : l[k]? = some x) : weightsM m (l.take (k + 1)) = weightsM m (l.take k) ++ [withI x (m + 1)] := by
  unfold weightsM
  rw [List.take_add_one, h, List.map_append]; rfl
theorem weightsM_len (m : Int) (l : List Int) : (weightsM m l).length = l.length + 1 := by simp [weightsM]
theorem weightsM_pos {m : Int} (hm : 1 ≤ m) (h2 : m ≤ 1000000) {l : List Int} : 1 ≤ (weightsM m l).sum := by
  have hz : ∀ x ∈ weightsM m l, 0 ≤ x ∧ x ≤ 1000000000000 := fun x hx => by have := weightsM_bd hm x hx; omega
  have := (sum_bd (l := l.map (fun x => withI x (m + 1))) (fun x hx => hz x (List.mem_cons_of_mem _ hx))).1
  unfold weightsM
  rw [List.sum_cons]
  omega
theorem weights_ok {l : List Int} (hl : l.length ≤ 40) (hz : ∀ x ∈ l, 0 ≤ x ∧ x ≤ 1000000000000) (hs : l.sum ≠ 0) : weightsE l = 0 := by
  unfold weightsE
  rw [if_neg (by omega), if_pos, if_neg hs]
  refine List.all_eq_true.2 (fun x hx => ?_)
  unfold okW
  rw [Bool.and_eq_true, decide_eq_true_iff, decide_eq_true_iff]
  exact hz x hx
theorem weightsM_ok {m : Int} (hm : 1 ≤ m) (h2 : m ≤ 1000000) {l : List Int} (h : l.length ≤ 39) : weightsE (weightsM m l) = 0 :=
  weights_ok (by rw [weightsM_len]; omega) (fun x hx => by have := weightsM_bd hm x hx; omega) (by have := weightsM_pos hm h2 (l := l); omega)
end Go.Proofs.Ytfgcmlgdgmcffab
