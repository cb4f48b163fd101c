/- The first place of a list at which a test holds. Mathematics alone. -/
import Derived.Test.YtfgcmlgdgmcffabCumMath
namespace Go.Proofs.Ytfgcmlgdgmcffab
open Go.ChangeShapes Go.WideShapes Go.ChangeAt Go.RowKit
theorem find_here {p : Int → Bool} {l : List Int} {k : Nat} {x : Int} (hx : l[k]? = some x) (hp : p x = true) (hn : ∀ j, j < k → ∀ y, l[j]? = some y → p y = false) : l.findIdx p = k := by
  obtain ⟨hk, rfl⟩ := List.getElem?_eq_some_iff.1 hx
  rw [List.findIdx_eq hk]
  exact ⟨hp, fun j hj => hn j hj _ (List.getElem?_eq_getElem _)⟩
theorem find_on {p : Int → Bool} {l : List Int} {k : Nat} {x : Int} (hx : l[k]? = some x) (hp : p x = false) (hn : ∀ j, j < k → ∀ y, l[j]? = some y → p y = false) : ∀ j, j < k + 1 → ∀ y, l[j]? = some y → p y = false := by
  intro j hj y hy
  by_cases e : j = k
  · subst e; rw [hx, Option.some.injEq] at hy; subst hy; exact hp
  · exact hn j (by omega) y hy
theorem find_none {p : Int → Bool} {l : List Int} (hn : ∀ j, j < l.length → ∀ y, l[j]? = some y → p y = false) (h : l.findIdx p < l.length) : False := by
  rw [List.findIdx_lt_length] at h
  obtain ⟨x, hx, hp⟩ := h
  obtain ⟨j, hj, rfl⟩ := List.getElem_of_mem hx
  rw [hn j hj _ (List.getElem?_eq_getElem hj)] at hp
  cases hp
end Go.Proofs.Ytfgcmlgdgmcffab
