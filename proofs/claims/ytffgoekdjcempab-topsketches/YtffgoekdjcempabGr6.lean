/- Texts joined: DeleteInts, InfoInts, OwnMore. -/
import Derived.Test.YtffgoekdjcempabShelf
import Derived.Test.YtffgoekdjcempabOwn
import Derived.Sort.OwnSortedInts
import Derived.Laws.OwnMore
/- The contract of slices.Delete at one place of a slice of ints that the call made itself. -/
namespace Go.Proofs.Ytffgoekdjcempab
open Go.ChangeShapes Go.WideShapes Go.ChangeAt Go.RowKit

theorem Own.kept_by {w w' : World} {base : Nat} {e : TypeId} {k : Nat} {v : Value} {R : List (List Value)} {row : Option Nat} (h : Own w base e k v R) (hg : w.grownBy w' row) (hne : v.ownBlock = none ∨ v.ownBlock ≠ row) : Own w' base e k v R := ⟨h.own.kept hg hne, h.rows⟩
theorem delete_own {w : World} {base g n cap : Nat} {l : List Int} {i : Nat} (h : Own w base 3 1 (.slice (some ⟨g, 0, none⟩) n cap) (l.map iC)) (hi : i < n) :
    Calls Try.prog 80 #[.slice (some ⟨g, 0, none⟩) n cap, .int .i64 (i : Nat), .int .i64 ((i : Int) + 1)] w fun e w' =>
      e = .returned (.slice (some ⟨g, 0, none⟩) (n - 1) cap) ∧ Own w' base 3 1 (.slice (some ⟨g, 0, none⟩) (n - 1) cap) ((l.eraseIdx i).map iC) ∧ w.grownBy w' (some g) := by
  obtain ⟨⟨hl, hv⟩, hR⟩ := h
  rcases hv with ⟨h0, _⟩ | ⟨g', cap', cur, h0, hg, hcur, hle, hm, hsz, htk⟩
  · cases h0
  simp only [Value.slice.injEq, Option.some.injEq, Addr.mk.injEq, and_true] at h0
  obtain ⟨rfl, hn, rfl⟩ := h0
  rw [List.length_map] at hn hle htk
  subst hn
  rw [flat_ints, Nat.mul_one] at htk
  have hm2 : cap ≤ 9223372036854775807 := by unfold maxLen at hm; omega
  have C := slices_Delete_int g 0 cap i (i + 1) l w (holds_of_blockI hcur htk) hle hm2 (by omega) (by omega)
  rw [show ((i + 1 : Nat) : Int) = (i : Int) + 1 from by omega, show i + 1 - i = 1 from by omega] at C
  refine C.mono ?_
  rintro e w' ⟨rfl, q, hw⟩
  have he : l.eraseIdx i = l.take i ++ l.drop (i + 1) := List.eraseIdx_eq_take_drop_succ ..
  have hel : (l.eraseIdx i).length = l.length - 1 := by rw [List.length_eraseIdx, if_pos hi]
  rw [← he] at hw
  have hw2 : w' = Go.Sort.grow (Go.Sort.putRow (Value.int .i64) (Go.Sort.ahead w q) g 0 (l.eraseIdx i ++ List.replicate 1 0).toArray) #[] := by rw [hw, Go.Sort.grow_empty]
  have hD : (l.eraseIdx i ++ List.replicate 1 (0 : Int)).length = l.length := by rw [List.length_append, hel]; simp; omega
  refine ⟨rfl, ⟨⟨?_, .inr ⟨g, cap, _, ?_, hg, by rw [hw2]; exact heap_sortedI _ hcur, ?_, hm, by simp [Go.Sort.putCells, hsz], ?_⟩⟩, rows_of iC_len _⟩, by rw [hw2]; exact grownBy_sortedI _⟩
  · rw [flat_ints, List.length_map, List.length_map, Nat.mul_one]
  · rw [List.length_map, hel]
  · rw [List.length_map, hel]; omega
  · have h1 := take_putCellsI cur (l.eraseIdx i ++ List.replicate 1 0) (by rw [hD, hsz]; omega)
    rw [flat_ints, List.length_map, Nat.mul_one]
    have h2 : ∀ (M : List Value) (a b : Nat), a ≤ b → M.take a = (M.take b).take a := fun M a b hab => by rw [List.take_take, Nat.min_eq_left hab]
    rw [h2 _ _ (l.eraseIdx i ++ List.replicate 1 (0 : Int)).length (by simp), h1, List.map_append, List.take_append_of_le_length (by simp), List.take_of_length_le (by simp)]

end Go.Proofs.Ytffgoekdjcempab

/- What the program's table says of the element type int. -/
namespace Go.Proofs.Ytffgoekdjcempab
open Go.RowKit

theorem info_int : (Try.prog.info? 3).map (fun i => (i.zero, i.size, i.bytes)) = some (some (.int .i64 0), 1, 8) := by kernel_rfl

end Go.Proofs.Ytffgoekdjcempab

/- More on slices that a call made itself: a lower base, stores beside them, blocks that an append leaves alone. -/
namespace Go.Proofs.Ytffgoekdjcempab
open Go.ChangeShapes Go.WideShapes Go.ChangeAt Go.RowKit

theorem Own.base_le {w : World} {base B : Nat} {e : TypeId} {k : Nat} {v : Value} {R : List (List Value)} (h : Own w base e k v R) (hB : B ≤ base) : Own w B e k v R := by
  refine ⟨⟨h.own.1, ?_⟩, h.rows⟩
  rcases h.own.2 with h0 | ⟨g, cap, cur, h0, hg, hr⟩
  · exact Or.inl h0
  · exact Or.inr ⟨g, cap, cur, h0, Nat.le_trans hB hg, hr⟩
theorem Own.setCell {w : World} {base : Nat} {e : TypeId} {k : Nat} {v : Value} {R : List (List Value)} (h : Own w base e k v R) {a : Addr} (ha : a.block < base) (u : Value) : Own (w.setCell a u) base e k v R := ⟨ownsRow_setCell_below h.own ha u, h.rows⟩

theorem Own.drew {w : World} {base : Nat} {e : TypeId} {k : Nat} {v : Value} {R : List (List Value)} (h : Own w base e k v R) : Own w.drew base e k v R := ⟨h.own, h.rows⟩
theorem cell_blk {w : World} {b i : Nat} {cs : Array Value} {t : TypeId} {u : Value} (h : w.heap[b]? = some (.cells cs t (0, 0))) (hu : cs[i]? = some u) : w.cell? ⟨b, i, none⟩ = some u := by
  simp [World.cell?, h, hu]
theorem frozen_blk {w : World} {b i : Nat} {cs : Array Value} {t : TypeId} (h : w.heap[b]? = some (.cells cs t (0, 0))) : w.frozen? ⟨b, i, none⟩ = false := by
  simp [World.frozen?, h]
/-- an append leaves a block below its own slice as it was -/
theorem blk_grown {w wr w1 : World} {o o' : Obj} {base b : Nat} {e : TypeId} {k : Nat} {v : Value} {R : List (List Value)} (hO : Own wr base e k v R) (hg : (wr.alloc o).grownBy w1 v.ownBlock) (hb : b < base) (h : wr.heap[b]? = some o') : w1.heap[b]? = some o' := by
  have hlt : b < wr.heap.size := (Array.getElem?_eq_some_iff.1 h).1
  rw [hg.block b (by simp; omega) (fun e => by have := (hO.own.lt b e.symm).1; omega), Below.heap_alloc _ _ _ hlt]
  exact h

end Go.Proofs.Ytffgoekdjcempab
