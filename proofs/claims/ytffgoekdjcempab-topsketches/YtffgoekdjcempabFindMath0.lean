/- The first place of a list at which a test answers yes. Mathematics alone. -/
import Derived.Test.YtffgoekdjcempabGr1
namespace Go.Proofs.Ytffgoekdjcempab
namespace Find0

def idxF (p : Int → Bool) (l : List Int) : Int := if l.any p then ((l.findIdx p : Nat) : Int) else -1
theorem idxF_here {p : Int → Bool} {l : List Int} {k : Nat} {x : Int} (hx : l[k]? = some x) (hp : p x = true) (hn : ∀ j, j < k → ∀ y, l[j]? = some y → p y = false) : idxF p l = (k : Int) := by
  have hk := (List.getElem?_eq_some_iff.1 hx).1
  have hm : x ∈ l := List.mem_of_getElem? hx
  have ha : l.any p = true := List.any_eq_true.2 ⟨x, hm, hp⟩
  have hf : l.findIdx p = k := by
    refine (List.findIdx_eq hk).2 ⟨?_, fun j hj => ?_⟩
    · rw [(List.getElem?_eq_some_iff.1 hx).2]; exact hp
    · have := hn j hj _ (List.getElem?_eq_getElem (by omega))
      simpa using this
  unfold idxF
  rw [if_pos ha, hf]
theorem idxF_none {p : Int → Bool} {l : List Int} {k : Nat} (hk : l.length = k) (hn : ∀ j, j < k → ∀ y, l[j]? = some y → p y = false) : idxF p l = -1 ∧ l.any p = false := by
  have ha : l.any p = false := by
    rw [List.any_eq_false]
    intro x hx
    obtain ⟨j, hj⟩ := List.getElem?_of_mem hx
    have := hn j (by have := (List.getElem?_eq_some_iff.1 hj).1; omega) x hj
    simp [this]
  exact ⟨by unfold idxF; rw [ha]; rfl, ha⟩
theorem idxF_le (p : Int → Bool) (l : List Int) : decide (0 ≤ idxF p l) = l.any p := by
  unfold idxF
  by_cases h : l.any p = true
  · rw [if_pos h, h]; simp
  · rw [if_neg h]; simp at h ⊢; exact h
end Find0
end Go.Proofs.Ytffgoekdjcempab
