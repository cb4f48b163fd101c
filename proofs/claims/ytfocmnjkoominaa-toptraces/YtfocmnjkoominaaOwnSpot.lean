/- Where an own slice of ints lies that is not empty; and a store into a list told by a function of the place. Shapes and mathematics alone. -/
import Derived.Test.YtfocmnjkoominaaMany
import Derived.Test.YtfocmnjkoominaaListTo
namespace Go.Proofs.Ytfocmnjkoominaa
open Go.ChangeShapes Go.WideShapes Go.ChangeAt Go.RowKit
open Est Span

theorem own_spot {w : World} {base : Nat} {e : TypeId} {v : Value} {L : List Int} (h : Own w base e 1 v (L.map iC)) (hl : 0 < L.length) : ∃ g cap, v = .slice (some ⟨g, 0, none⟩) L.length cap := by
  rcases h.own.2 with ⟨_, h0'⟩ | ⟨g', cap', cur, h0, _⟩
  · rw [List.length_map] at h0'; omega
  · rw [List.length_map] at h0
    exact ⟨g', cap', h0⟩
theorem listTo_set (f : Nat → Int) (n j : Nat) (y : Int) : (listTo f n).set j y = listTo (fun i => if i = j then y else f i) n := by
  apply List.ext_getElem?
  intro i
  by_cases hi : i < n
  · rw [listTo_get hi]
    by_cases hj : i = j
    · subst hj
      rw [List.getElem?_set_self (by rw [listTo_len]; exact hi), if_pos rfl]
    · rw [List.getElem?_set_ne (fun h => hj h.symm), listTo_get hi, if_neg hj]
  · rw [List.getElem?_eq_none (by rw [List.length_set, listTo_len]; omega), List.getElem?_eq_none (by rw [listTo_len]; omega)]
theorem own_set {w : World} {base : Nat} {e : TypeId} {g n cap : Nat} {L : List Int} (h : Own w base e 1 (.slice (some ⟨g, 0, none⟩) n cap) (L.map iC)) {i : Nat} {y : Int} (hy : L[i]? = some y) (z : Int) : Own (w.setCell ⟨g, i, none⟩ (.int .i64 z)) base e 1 (.slice (some ⟨g, 0, none⟩) n cap) ((L.set i z).map iC) := by
  have := h.set1 (map_get hy) (.int .i64 z)
  rw [← show iC z = [Value.int .i64 z] from rfl, ← List.map_set] at this
  exact this
theorem sumTo_le {f g : Nat → Int} : ∀ {n : Nat}, (∀ i, i < n → f i ≤ g i) → sumTo f n ≤ sumTo g n
  | 0, _ => Int.le_refl _
  | n + 1, h => by
    have h1 := sumTo_le (n := n) (fun i hi => h i (by omega))
    have h2 := h n (by omega)
    rw [sumTo, sumTo]
    omega
theorem sumTo_mul (f : Nat → Int) (c : Int) : ∀ n : Nat, sumTo (fun i => f i * c) n = sumTo f n * c
  | 0 => by simp [sumTo]
  | n + 1 => by rw [sumTo, sumTo, sumTo_mul f c n, Int.add_mul]
end Go.Proofs.Ytfocmnjkoominaa
