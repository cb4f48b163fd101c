/- The same with two pairs that are being looked at, each in a box of its own. -/
import Derived.Test.YteddoccgbebbeabRefAliasHold
namespace Go.Proofs.Yteddoccgbebbeab
open Go.ChangeShapes Go.WideShapes Go.ChangeAt Go.RowKit

variable {w0 wr w1 : World} {H X : Nat} {A : Int} {bo br vo vr vl vh v' : Value} {own rest : List Int} {low high R : List (Int × Int)} {p : Int × Int}
/-- a store into a block that is none of its own -/
theorem AL.other (h : AL w0 wr H X A bo br vo vr vl vh own rest low high) {B i : Nat} (hB : X < B) (n1 : vo.ownBlock ≠ some B) (n2 : vr.ownBlock ≠ some B) (n3 : vl.ownBlock ≠ some B) (n4 : vh.ownBlock ≠ some B) (u : Value) : AL w0 (wr.setCell ⟨B, i, none⟩ u) H X A bo br vo vr vl vh own rest low high := by
  have hX := h.hx
  have hw := h.ho
  refine ⟨h.oo.keptBy (grown_cell _ _ _) (Or.inr n1), h.rr.keptBy (grown_cell _ _ _) (Or.inr n2), h.ll.keptBy (grown_cell _ _ _) (Or.inr n3), h.hh.keptBy (grown_cell _ _ _) (Or.inr n4), ?_, ?_, h.a1, h.a2, h.a3, h.a4, h.a5, h.a6, fun g hg => by rw [set_size]; exact h.gl g hg, fun g hg => by rw [set_size]; exact h.gh g hg, h.hx, h.ho, h.bel.setCell (p := ⟨B, i, none⟩) (by show w0.heap.size ≤ B; omega) _⟩
  · rw [Below.heap_setCell _ _ _ _ (by show X ≠ B; omega)]; exact h.box
  · rw [Below.heap_setCell _ _ _ _ (by show H ≠ B; omega)]; exact h.res
/-- no slice of these lies in block B -/
structure Free (X B : Nat) (vo vr vl vh : Value) : Prop where
  lo : X < B
  n1 : vo.ownBlock ≠ some B
  n2 : vr.ownBlock ≠ some B
  n3 : vl.ownBlock ≠ some B
  n4 : vh.ownBlock ≠ some B
theorem AL.free (h : AL w0 wr H X A bo br vo vr vl vh own rest low high) {B : Nat} (hB : wr.heap.size ≤ B) : Free X B vo vr vl vh := by
  have := h.lX
  exact ⟨by omega, fun e => by have := (h.oo.own.lt B e).2; omega, fun e => by have := (h.rr.own.lt B e).2; omega, fun e => by have := (h.gl B e).2; omega, fun e => by have := (h.gh B e).2; omega⟩
structure AB (w0 wr : World) (H X : Nat) (A : Int) (vo vr vl vh : Value) (own rest : List Int) (low high : List (Int × Int)) (Ba Bb : Nat) (ca la cb lb : Int) : Prop where
  al : AL w0 wr H X A vo vr vo vr vl vh own rest low high
  ba : wr.heap[Ba]? = some (.cells #[.int .i64 ca, .int .i64 la] 77 (0, 0))
  bb : wr.heap[Bb]? = some (.cells #[.int .i64 cb, .int .i64 lb] 77 (0, 0))
  ne : Ba ≠ Bb
  fa : Free X Ba vo vr vl vh
  fb : Free X Bb vo vr vl vh
variable {Ba Bb : Nat} {ca la cb lb : Int}
theorem AB.new (h : AL w0 wr H X A vo vr vo vr vl vh own rest low high) (ca la cb lb : Int) : AB w0 ((wr.alloc (.cells #[.int .i64 ca, .int .i64 la] 77)).alloc (.cells #[.int .i64 cb, .int .i64 lb] 77)).drew H X A vo vr vl vh own rest low high wr.heap.size (wr.heap.size + 1) ca la cb lb := by
  refine ⟨((h.alloc _).alloc _).drew, ?_, ?_, by omega, h.free (Nat.le_refl _), h.free (by omega)⟩
  · show ((wr.alloc _).alloc _).heap[wr.heap.size]? = _
    rw [Below.heap_alloc _ _ _ (by simp)]; exact (MapKept.heap_alloc wr _).1
  · show ((wr.alloc _).alloc _).heap[wr.heap.size + 1]? = _
    have := (MapKept.heap_alloc (wr.alloc (.cells #[.int .i64 ca, .int .i64 la] 77)) (.cells #[.int .i64 cb, .int .i64 lb] 77)).1
    rwa [show (wr.alloc (.cells #[.int .i64 ca, .int .i64 la] 77)).heap.size = wr.heap.size + 1 from by simp] at this
theorem AB.new' (h : AL w0 wr H X A vo vr vo vr vl vh own rest low high) (ca la cb lb : Int) : AB w0 ((wr.alloc (.cells #[.int .i64 cb, .int .i64 lb] 77)).alloc (.cells #[.int .i64 ca, .int .i64 la] 77)).drew H X A vo vr vl vh own rest low high (wr.heap.size + 1) wr.heap.size ca la cb lb := by
  have h1 := AB.new h cb lb ca la
  exact ⟨h1.al, h1.bb, h1.ba, h1.ne.symm, h1.fb, h1.fa⟩
theorem box_other {w : World} {B G i : Nat} {o : Obj} {u : Value} (h : w.heap[B]? = some o) (hne : B ≠ G) : (w.setCell ⟨G, i, none⟩ u).heap[B]? = some o := by rw [Below.heap_setCell _ _ _ _ hne]; exact h
theorem AB.drew (h : AB w0 wr H X A vo vr vl vh own rest low high Ba Bb ca la cb lb) : AB w0 wr.drew H X A vo vr vl vh own rest low high Ba Bb ca la cb lb := ⟨h.al.drew, h.ba, h.bb, h.ne, h.fa, h.fb⟩
theorem AB.tailLow {a : Option Addr} {n cap : Nat} (h : AB w0 wr H X A vo vr (.slice a n cap) vh own rest (p :: low) high Ba Bb ca la cb lb) : AB w0 wr H X A vo vr (.slice (fromA a cap 1 2) (n - 1) (cap - 1)) vh own rest low high Ba Bb ca la cb lb := by
  have t2 := h.al.ll.tail.2
  exact ⟨h.al.tailLow, h.ba, h.bb, h.ne, ⟨h.fa.lo, h.fa.n1, h.fa.n2, fun e => h.fa.n3 (t2 ▸ e), h.fa.n4⟩, ⟨h.fb.lo, h.fb.n1, h.fb.n2, fun e => h.fb.n3 (t2 ▸ e), h.fb.n4⟩⟩
theorem AB.setOR {O R n m c1 c2 i : Nat} {y y' : Int} (h : AB w0 wr H X A (.slice (some ⟨O, 0, none⟩) n c1) (.slice (some ⟨R, 0, none⟩) m c2) vl vh own rest low high Ba Bb ca la cb lb) (hy : own[i]? = some y) (hy' : rest[i]? = some y') (z z' : Int) :
    AB w0 ((wr.setCell ⟨O, i, none⟩ (.int .i64 z)).setCell ⟨R, i, none⟩ (.int .i64 z')) H X A (.slice (some ⟨O, 0, none⟩) n c1) (.slice (some ⟨R, 0, none⟩) m c2) vl vh (own.set i z) (rest.set i z') low high Ba Bb ca la cb lb := by
  have nO : ∀ {B : Nat}, (Value.slice (some ⟨O, 0, none⟩) n c1).ownBlock ≠ some B → B ≠ O := fun h e => h (by rw [e]; rfl)
  have nR : ∀ {B : Nat}, (Value.slice (some ⟨R, 0, none⟩) m c2).ownBlock ≠ some B → B ≠ R := fun h e => h (by rw [e]; rfl)
  exact ⟨((h.al.setO hy z).swap.setO hy' z').swap, box_other (box_other h.ba (nO h.fa.n1)) (nR h.fa.n2), box_other (box_other h.bb (nO h.fb.n1)) (nR h.fb.n2), h.ne, h.fa, h.fb⟩
theorem AB.setB (h : AB w0 wr H X A vo vr vl vh own rest low high Ba Bb ca la cb lb) (x : Int) : AB w0 (wr.setCell ⟨Bb, 1, none⟩ (.int .i64 x)) H X A vo vr vl vh own rest low high Ba Bb ca la cb x :=
  ⟨h.al.other h.fb.lo h.fb.n1 h.fb.n2 h.fb.n3 h.fb.n4 _, box_other h.ba h.ne, heap_setCell_same wr Bb 1 _ _ _ h.bb, h.ne, h.fa, h.fb⟩
theorem AB.putHigh {g off n cap : Nat} (h : AB w0 wr H X A vo vr vl (.slice (some ⟨g, off, none⟩) n cap) own rest low (p :: high) Ba Bb ca la cb lb) (x y : Int) : AB w0 ((wr.setCell ⟨g, off, none⟩ (.int .i64 x)).setCell ⟨g, off + 1, none⟩ (.int .i64 y)) H X A vo vr vl (.slice (some ⟨g, off, none⟩) n cap) own rest low ((x, y) :: high) Ba Bb ca la cb lb := by
  have ng : ∀ {B : Nat}, (Value.slice (some ⟨g, off, none⟩) n cap).ownBlock ≠ some B → B ≠ g := fun h e => h (by rw [e]; rfl)
  exact ⟨h.al.putHigh x y, box_other (box_other h.ba (ng h.fa.n4)) (ng h.fa.n4), box_other (box_other h.bb (ng h.fb.n4)) (ng h.fb.n4), h.ne, h.fa, h.fb⟩
theorem bit_cells {w : World} {B : Nat} {x y : Int} (h : w.heap[B]? = some (.cells #[.int .i64 x, .int .i64 y] 77 (0, 0))) : (w.cell? ⟨B, 0, none⟩ = some (.int .i64 x) ∧ w.cell? ⟨B, 1, none⟩ = some (.int .i64 y)) ∧ w.frozen? ⟨B, 0, none⟩ = false ∧ w.frozen? ⟨B, 1, none⟩ = false :=
  ⟨⟨cell_blk h rfl, cell_blk h rfl⟩, frozen_blk h, frozen_blk h⟩
theorem own_form {w : World} {base : Nat} {e : TypeId} {v : Value} {l : List Int} {n : Nat} (h : Own w base e 1 v (l.map iC)) (hl : l.length = n) (hn : 0 < n) : ∃ O cap, v = .slice (some ⟨O, 0, none⟩) n cap := by
  obtain ⟨⟨hx, hv⟩, hR⟩ := h
  rw [List.length_map, hl] at hv
  rcases hv with ⟨_, h0⟩ | ⟨g, cap, cur, rfl, _⟩
  · omega
  · exact ⟨g, cap, rfl⟩
end Go.Proofs.Yteddoccgbebbeab
