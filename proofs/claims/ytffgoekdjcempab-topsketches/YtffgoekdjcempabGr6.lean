/- Texts joined: InfoInts, OwnMore. -/
import Derived.Test.YtffgoekdjcempabGr4
import Derived.Laws.OwnMore
/- What the program's table says of the element type int. -/
namespace Go.Proofs.Ytffgoekdjcempab
open Go.RowKit

theorem info_int : (Try.prog.info? 3).map (fun i => (i.zero, i.size, i.bytes)) = some (some (.int .i64 0), 1, 8) := by kernel_rfl

end Go.Proofs.Ytffgoekdjcempab

/- More on slices that a call made itself: a lower base, stores beside them, blocks that an append leaves alone. -/
namespace Go.Proofs.Ytffgoekdjcempab
open Go.ChangeShapes Go.WideShapes Go.ChangeAt Go.RowKit

theorem Own.base_le {w : World} {base B : Nat} {e : TypeId} {k : Nat} {v : Value} {R : List (List Value)} (h : Own w base e k v R) (hB : B ≤ base) : Own w B e k v R := by
  refine ⟨⟨h.own.1, ?_⟩, h.rows⟩
  rcases h.own.2 with h0 | ⟨g, cap, cur, h0, hg, hr⟩
  · exact Or.inl h0
  · exact Or.inr ⟨g, cap, cur, h0, Nat.le_trans hB hg, hr⟩
theorem Own.setCell {w : World} {base : Nat} {e : TypeId} {k : Nat} {v : Value} {R : List (List Value)} (h : Own w base e k v R) {a : Addr} (ha : a.block < base) (u : Value) : Own (w.setCell a u) base e k v R := ⟨ownsRow_setCell_below h.own ha u, h.rows⟩

theorem Own.drew {w : World} {base : Nat} {e : TypeId} {k : Nat} {v : Value} {R : List (List Value)} (h : Own w base e k v R) : Own w.drew base e k v R := ⟨h.own, h.rows⟩
theorem cell_blk {w : World} {b i : Nat} {cs : Array Value} {t : TypeId} {u : Value} (h : w.heap[b]? = some (.cells cs t (0, 0))) (hu : cs[i]? = some u) : w.cell? ⟨b, i, none⟩ = some u := by
  simp [World.cell?, h, hu]
theorem frozen_blk {w : World} {b i : Nat} {cs : Array Value} {t : TypeId} (h : w.heap[b]? = some (.cells cs t (0, 0))) : w.frozen? ⟨b, i, none⟩ = false := by
  simp [World.frozen?, h]
/-- an append leaves a block below its own slice as it was -/
theorem blk_grown {w wr w1 : World} {o o' : Obj} {base b : Nat} {e : TypeId} {k : Nat} {v : Value} {R : List (List Value)} (hO : Own wr base e k v R) (hg : (wr.alloc o).grownBy w1 v.ownBlock) (hb : b < base) (h : wr.heap[b]? = some o') : w1.heap[b]? = some o' := by
  have hlt : b < wr.heap.size := (Array.getElem?_eq_some_iff.1 h).1
  rw [hg.block b (by simp; omega) (fun e => by have := (hO.own.lt b e.symm).1; omega), Below.heap_alloc _ _ _ hlt]
  exact h

end Go.Proofs.Ytffgoekdjcempab
