/- The contract of slices.Sort on a slice of ints that the call made itself. -/
import Derived.Test.YtffgoekdjcempaaGreatShelf
import Derived.Test.YtffgoekdjcempaaGreatOwnTwo
import Derived.Sort.OwnSortedInts
namespace Go.Proofs.YtffgoekdjcempaaGreat
open Go.ChangeShapes Go.WideShapes Go.ChangeAt Go.RowKit

def sortI (l : List Int) : List Int := l.mergeSort fun x y => decide (x ≤ y)
theorem sortI_len (l : List Int) : (sortI l).length = l.length := List.length_mergeSort _
theorem grown_same (w : World) (row : Option Nat) : w.grownBy w row := ⟨rfl, rfl, rfl, Nat.le_refl _, fun _ _ _ => rfl⟩
/-- an own slice of ints: it is empty, or lies at the beginning of a block -/
theorem own_ways {w : World} {base : Nat} {e : TypeId} {v : Value} {l : List Int} (h : Own w base e 1 v (l.map iC)) : (l = [] ∧ ∃ a cap, v = .slice a 0 cap) ∨ (∃ g cap cur, v = .slice (some ⟨g, 0, none⟩) l.length cap ∧ base ≤ g ∧ w.heap[g]? = some (.cells cur e (0, 0)) ∧ l.length ≤ cap ∧ cap ≤ maxLen ∧ cur.size = cap ∧ cur.toList.take l.length = l.map (Value.int .i64)) := by
  obtain ⟨⟨hl, hv⟩, hR⟩ := h
  rcases hv with ⟨h0, h1⟩ | ⟨g, cap, cur, h0, hg, hcur, hle, hm, hsz, htk⟩
  · left
    rw [List.length_map] at h1
    exact ⟨List.eq_nil_of_length_eq_zero h1, none, 0, h0⟩
  · right
    rw [List.length_map] at h0 hle
    rw [flat_ints, List.length_map, Nat.mul_one] at htk
    exact ⟨g, cap, cur, h0, hg, hcur, hle, hm, by rw [hsz, Nat.mul_one], htk⟩
theorem own_again {w : World} {base g cap n : Nat} {e : TypeId} {cur : Array Value} {l : List Int} (hn : l.length = n) (hg : base ≤ g) (hcur : w.heap[g]? = some (.cells cur e (0, 0))) (hle : n ≤ cap) (hm : cap ≤ maxLen) (hsz : cur.size = cap) (htk : cur.toList.take l.length = l.map (Value.int .i64)) : Own w base e 1 (.slice (some ⟨g, 0, none⟩) n cap) (l.map iC) := by
  refine ⟨⟨?_, .inr ⟨g, cap, cur, ?_, hg, hcur, ?_, hm, by rw [hsz, Nat.mul_one], ?_⟩⟩, rows_of iC_len _⟩
  · rw [flat_ints, List.length_map, List.length_map, Nat.mul_one]
  · rw [List.length_map, hn]
  · rw [List.length_map, hn]; exact hle
  · rw [flat_ints, List.length_map, Nat.mul_one]; exact htk

theorem sort_own {w : World} {base : Nat} {v : Value} {l : List Int} (h : Own w base 3 1 v (l.map iC)) (hb : l.length ≤ 1000000) :
    Calls Tryz.prog 49 #[v] w fun e w' => e = .returned (.tuple #[]) ∧ Own w' base 3 1 v ((sortI l).map iC) ∧ w.grownBy w' v.ownBlock := by
  rcases own_ways h with ⟨rfl, a, cap, rfl⟩ | ⟨g, cap, cur, rfl, hg, hcur, hle, hm, hsz, htk⟩
  · refine (slices_Sort_int_none a cap w).mono ?_
    rintro e w' ⟨rfl, rfl⟩
    exact ⟨rfl, by rw [show sortI [] = [] from by simp [sortI]]; exact h, grown_same _ _⟩
  · have hlt : g < w.heap.size := (Array.getElem?_eq_some_iff.1 hcur).1
    refine (slices_Sort_int g 0 cap l w (holds_of_blockI hcur htk) hlt (by omega)).mono ?_
    rintro e w' ⟨rfl, n, os, rfl⟩
    refine ⟨rfl, own_again (sortI_len l) hg (heap_sortedI _ hcur) hle hm (by simp [Go.Sort.putCells, hsz]) ?_, grownBy_sortedI _⟩
    exact take_putCellsI cur (sortI l) (by rw [sortI_len, hsz]; exact hle)

end Go.Proofs.YtffgoekdjcempaaGreat
