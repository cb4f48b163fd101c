/- The contract of slices.Delete at one place of a slice of ints that the call made itself. -/
import Derived.Test.YtffgoekdjcempabShelf
import Derived.Test.YtffgoekdjcempabGr4
import Derived.Sort.OwnSortedInts
namespace Go.Proofs.Ytffgoekdjcempab
open Go.ChangeShapes Go.WideShapes Go.ChangeAt Go.RowKit

theorem Own.kept_by {w w' : World} {base : Nat} {e : TypeId} {k : Nat} {v : Value} {R : List (List Value)} {row : Option Nat} (h : Own w base e k v R) (hg : w.grownBy w' row) (hne : v.ownBlock = none ∨ v.ownBlock ≠ row) : Own w' base e k v R := ⟨h.own.kept hg hne, h.rows⟩
theorem delete_own {w : World} {base g n cap : Nat} {l : List Int} {i : Nat} (h : Own w base 3 1 (.slice (some ⟨g, 0, none⟩) n cap) (l.map iC)) (hi : i < n) :
    Calls Try.prog 80 #[.slice (some ⟨g, 0, none⟩) n cap, .int .i64 (i : Nat), .int .i64 ((i : Int) + 1)] w fun e w' =>
      e = .returned (.slice (some ⟨g, 0, none⟩) (n - 1) cap) ∧ Own w' base 3 1 (.slice (some ⟨g, 0, none⟩) (n - 1) cap) ((l.eraseIdx i).map iC) ∧ w.grownBy w' (some g) := by
  obtain ⟨⟨hl, hv⟩, hR⟩ := h
  rcases hv with ⟨h0, _⟩ | ⟨g', cap', cur, h0, hg, hcur, hle, hm, hsz, htk⟩
  · cases h0
  simp only [Value.slice.injEq, Option.some.injEq, Addr.mk.injEq, and_true] at h0
  obtain ⟨rfl, hn, rfl⟩ := h0
  rw [List.length_map] at hn hle htk
  subst hn
  rw [flat_ints, Nat.mul_one] at htk
  have hm2 : cap ≤ 9223372036854775807 := by unfold maxLen at hm; omega
  have C := slices_Delete_int g 0 cap i (i + 1) l w (holds_of_blockI hcur htk) hle hm2 (by omega) (by omega)
  rw [show ((i + 1 : Nat) : Int) = (i : Int) + 1 from by omega, show i + 1 - i = 1 from by omega] at C
  refine C.mono ?_
  rintro e w' ⟨rfl, q, hw⟩
  have he : l.eraseIdx i = l.take i ++ l.drop (i + 1) := List.eraseIdx_eq_take_drop_succ ..
  have hel : (l.eraseIdx i).length = l.length - 1 := by rw [List.length_eraseIdx, if_pos hi]
  rw [← he] at hw
  have hw2 : w' = Go.Sort.grow (Go.Sort.putRow (Value.int .i64) (Go.Sort.ahead w q) g 0 (l.eraseIdx i ++ List.replicate 1 0).toArray) #[] := by rw [hw, Go.Sort.grow_empty]
  have hD : (l.eraseIdx i ++ List.replicate 1 (0 : Int)).length = l.length := by rw [List.length_append, hel]; simp; omega
  refine ⟨rfl, ⟨⟨?_, .inr ⟨g, cap, _, ?_, hg, by rw [hw2]; exact heap_sortedI _ hcur, ?_, hm, by simp [Go.Sort.putCells, hsz], ?_⟩⟩, rows_of iC_len _⟩, by rw [hw2]; exact grownBy_sortedI _⟩
  · rw [flat_ints, List.length_map, List.length_map, Nat.mul_one]
  · rw [List.length_map, hel]
  · rw [List.length_map, hel]; omega
  · have h1 := take_putCellsI cur (l.eraseIdx i ++ List.replicate 1 0) (by rw [hD, hsz]; omega)
    rw [flat_ints, List.length_map, Nat.mul_one]
    have h2 : ∀ (M : List Value) (a b : Nat), a ≤ b → M.take a = (M.take b).take a := fun M a b hab => by rw [List.take_take, Nat.min_eq_left hab]
    rw [h2 _ _ (l.eraseIdx i ++ List.replicate 1 (0 : Int)).length (by simp), h1, List.map_append, List.take_append_of_le_length (by simp), List.take_of_length_le (by simp)]

end Go.Proofs.Ytffgoekdjcempab
