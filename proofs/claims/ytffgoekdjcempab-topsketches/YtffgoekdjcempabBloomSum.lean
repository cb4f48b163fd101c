/- Filters: the positions of all keys that came. Mathematics alone. -/
import Derived.Test.YtffgoekdjcempabGr12
namespace Go.Proofs.Ytffgoekdjcempab
open Go.ChangeShapes Go.WideShapes Go.ChangeAt Go.RowKit
namespace Bloom
/-- the positions of all keys -/
def allP (s k : Nat) (l : List Int) : List Nat := l.flatMap (fun x => places x s k)
theorem allP_snoc {s k t : Nat} {l : List Int} {x : Int} (h : l[t]? = some x) : allP s k (l.take (t + 1)) = allP s k (l.take t) ++ places x s k := by
  unfold allP
  rw [List.take_add_one, h, Option.toList_some, List.flatMap_append]
  simp
theorem allP_append (s k : Nat) (l m : List Int) : allP s k (l ++ m) = allP s k l ++ allP s k m := by unfold allP; rw [List.flatMap_append]
theorem allP_mem {s k : Nat} {l : List Int} {x : Int} (h : x ∈ l) : ∀ p ∈ places x s k, p ∈ allP s k l := by
  intro p hp
  unfold allP
  rw [List.mem_flatMap]
  exact ⟨x, h, hp⟩
theorem allP_lt {s k : Nat} (h : 1 ≤ s) {l : List Int} : ∀ p ∈ allP s k l, p < s := by
  intro p hp
  unfold allP at hp
  rw [List.mem_flatMap] at hp
  obtain ⟨x, _, hp⟩ := hp
  exact places_lt h p hp
theorem none_has {s k : Nat} (h1 : 1 ≤ s) (h2 : 1 ≤ k) (x : Int) : hasB (List.replicate s false) (places x s k) = false := by
  cases hc : hasB (List.replicate s false) (places x s k) with
  | false => rfl
  | true =>
    rw [hasB_true] at hc
    have hp := places_get (k := x) (s := s) (n := k) (i := 0) (by omega)
    have := hc _ (List.mem_of_getElem? hp)
    rw [List.getElem?_replicate, if_pos (placeN_lt h1)] at this
    cases this
end Bloom
end Go.Proofs.Ytffgoekdjcempab
