/- The contract of slices.Compact on a slice of ints that the call made itself. -/
import Derived.Test.YtffgoekdjcempabGr20
namespace Go.Proofs.Ytffgoekdjcempab
open Go.ChangeShapes Go.WideShapes Go.ChangeAt Go.RowKit

theorem compact_own {w : World} {base : Nat} {v : Value} {l : List Int} (h : Own w base 3 1 v (l.map iC)) (hb : l.length ≤ 1000000) (hc : (Lib.compact l).length ≤ l.length) :
    Calls Try.prog 85 #[v] w fun e w' => ∃ v', e = .returned v' ∧ Own w' base 3 1 v' ((Lib.compact l).map iC) ∧ w.grownBy w' v.ownBlock := by
  rcases own_ways h with ⟨rfl, a, cap, rfl⟩ | ⟨g, cap, cur, rfl, hg, hcur, hle, hm, hsz, htk⟩
  · refine (slices_Compact_int_empty a cap w).mono ?_
    rintro e w' ⟨rfl, rfl⟩
    exact ⟨_, rfl, h, grown_same _ _⟩
  · refine (slices_Compact_int g 0 cap l w (holds_of_blockI hcur htk) (by omega) hle).mono ?_
    rintro e w' ⟨rfl, q, hw⟩
    have hD : (Lib.compact l ++ List.replicate (l.length - (Lib.compact l).length) (0 : Int)).length = l.length := by rw [List.length_append, List.length_replicate]; omega
    have hw2 : w' = Go.Sort.grow (Go.Sort.putRow (Value.int .i64) (Go.Sort.ahead w q) g 0 (Lib.compact l ++ List.replicate (l.length - (Lib.compact l).length) 0).toArray) #[] := by rw [hw, Go.Sort.grow_empty]
    have h1 := take_putCellsI cur (Lib.compact l ++ List.replicate (l.length - (Lib.compact l).length) 0) (by rw [hD, hsz]; exact hle)
    have h2 : ∀ (M : List Value) (a b : Nat), a ≤ b → M.take a = (M.take b).take a := fun M a b hab => by rw [List.take_take, Nat.min_eq_left hab]
    refine ⟨_, rfl, own_again rfl hg (by rw [hw2]; exact heap_sortedI _ hcur) (by omega) hm (by simp [Go.Sort.putCells, hsz]) ?_, by rw [hw2]; exact grownBy_sortedI _⟩
    rw [h2 _ _ (Lib.compact l ++ List.replicate (l.length - (Lib.compact l).length) (0 : Int)).length (by simp), h1, List.map_append, List.take_append_of_le_length (by simp), List.take_of_length_le (by simp)]
end Go.Proofs.Ytffgoekdjcempab
