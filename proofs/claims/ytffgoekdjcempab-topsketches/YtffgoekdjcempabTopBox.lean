/- A block of eleven cells (five sketches in one variable): what is read, what is stored. Shapes alone. -/
import Derived.Test.YtffgoekdjcempabGr13
import Derived.Test.YtffgoekdjcempabGr33
namespace Go.Proofs.Ytffgoekdjcempab
open Go.ChangeShapes Go.WideShapes Go.ChangeAt Go.RowKit
open Tbl
namespace Five
theorem all_cells {w : World} {b : Nat} {c0 c1 c2 c3 c4 c5 c6 c7 c8 c9 c10 : Value} {t : TypeId} (h : w.heap[b]? = some (.cells #[c0, c1, c2, c3, c4, c5, c6, c7, c8, c9, c10] t (0, 0))) :
    w.cell? ⟨b, 0, none⟩ = some c0 ∧ w.cell? ⟨b, 1, none⟩ = some c1 ∧ w.cell? ⟨b, 2, none⟩ = some c2 ∧ w.cell? ⟨b, 3, none⟩ = some c3 ∧ w.cell? ⟨b, 4, none⟩ = some c4 ∧ w.cell? ⟨b, 5, none⟩ = some c5 ∧ w.cell? ⟨b, 6, none⟩ = some c6 ∧ w.cell? ⟨b, 7, none⟩ = some c7 ∧ w.cell? ⟨b, 8, none⟩ = some c8 ∧ w.cell? ⟨b, 9, none⟩ = some c9 ∧ w.cell? ⟨b, 10, none⟩ = some c10 :=
  ⟨cell_blk h rfl, cell_blk h rfl, cell_blk h rfl, cell_blk h rfl, cell_blk h rfl, cell_blk h rfl, cell_blk h rfl, cell_blk h rfl, cell_blk h rfl, cell_blk h rfl, cell_blk h rfl⟩
theorem all_frozen {w : World} {b : Nat} {cs : Array Value} {t : TypeId} (h : w.heap[b]? = some (.cells cs t (0, 0))) :
    w.frozen? ⟨b, 0, none⟩ = false ∧ w.frozen? ⟨b, 1, none⟩ = false ∧ w.frozen? ⟨b, 2, none⟩ = false ∧ w.frozen? ⟨b, 3, none⟩ = false ∧ w.frozen? ⟨b, 4, none⟩ = false ∧ w.frozen? ⟨b, 5, none⟩ = false ∧ w.frozen? ⟨b, 6, none⟩ = false ∧ w.frozen? ⟨b, 7, none⟩ = false ∧ w.frozen? ⟨b, 8, none⟩ = false ∧ w.frozen? ⟨b, 9, none⟩ = false ∧ w.frozen? ⟨b, 10, none⟩ = false :=
  ⟨frozen_blk h, frozen_blk h, frozen_blk h, frozen_blk h, frozen_blk h, frozen_blk h, frozen_blk h, frozen_blk h, frozen_blk h, frozen_blk h, frozen_blk h⟩
theorem all_set {w : World} {b : Nat} {c0 c1 c2 c3 c4 c5 c6 c7 c8 c9 c10 : Value} {t : TypeId} (h : w.heap[b]? = some (.cells #[c0, c1, c2, c3, c4, c5, c6, c7, c8, c9, c10] t (0, 0))) (d0 d1 d2 d3 d4 d5 d6 d7 d8 d9 d10 : Value) :
    (((((((((((w.setCell ⟨b, 0, none⟩ d0).setCell ⟨b, 1, none⟩ d1).setCell ⟨b, 2, none⟩ d2).setCell ⟨b, 3, none⟩ d3).setCell ⟨b, 4, none⟩ d4).setCell ⟨b, 5, none⟩ d5).setCell ⟨b, 6, none⟩ d6).setCell ⟨b, 7, none⟩ d7).setCell ⟨b, 8, none⟩ d8).setCell ⟨b, 9, none⟩ d9).setCell ⟨b, 10, none⟩ d10).heap[b]? = some (.cells #[d0, d1, d2, d3, d4, d5, d6, d7, d8, d9, d10] t (0, 0)) := by
  have h0 : (w.setCell ⟨b, 0, none⟩ d0).heap[b]? = some (.cells #[d0, c1, c2, c3, c4, c5, c6, c7, c8, c9, c10] t (0, 0)) := heap_setCell_same _ b 0 _ _ d0 h
  have h1 : ((w.setCell ⟨b, 0, none⟩ d0).setCell ⟨b, 1, none⟩ d1).heap[b]? = some (.cells #[d0, d1, c2, c3, c4, c5, c6, c7, c8, c9, c10] t (0, 0)) := heap_setCell_same _ b 1 _ _ d1 h0
  have h2 : (((w.setCell ⟨b, 0, none⟩ d0).setCell ⟨b, 1, none⟩ d1).setCell ⟨b, 2, none⟩ d2).heap[b]? = some (.cells #[d0, d1, d2, c3, c4, c5, c6, c7, c8, c9, c10] t (0, 0)) := heap_setCell_same _ b 2 _ _ d2 h1
  have h3 : ((((w.setCell ⟨b, 0, none⟩ d0).setCell ⟨b, 1, none⟩ d1).setCell ⟨b, 2, none⟩ d2).setCell ⟨b, 3, none⟩ d3).heap[b]? = some (.cells #[d0, d1, d2, d3, c4, c5, c6, c7, c8, c9, c10] t (0, 0)) := heap_setCell_same _ b 3 _ _ d3 h2
  have h4 : (((((w.setCell ⟨b, 0, none⟩ d0).setCell ⟨b, 1, none⟩ d1).setCell ⟨b, 2, none⟩ d2).setCell ⟨b, 3, none⟩ d3).setCell ⟨b, 4, none⟩ d4).heap[b]? = some (.cells #[d0, d1, d2, d3, d4, c5, c6, c7, c8, c9, c10] t (0, 0)) := heap_setCell_same _ b 4 _ _ d4 h3
  have h5 : ((((((w.setCell ⟨b, 0, none⟩ d0).setCell ⟨b, 1, none⟩ d1).setCell ⟨b, 2, none⟩ d2).setCell ⟨b, 3, none⟩ d3).setCell ⟨b, 4, none⟩ d4).setCell ⟨b, 5, none⟩ d5).heap[b]? = some (.cells #[d0, d1, d2, d3, d4, d5, c6, c7, c8, c9, c10] t (0, 0)) := heap_setCell_same _ b 5 _ _ d5 h4
  have h6 : (((((((w.setCell ⟨b, 0, none⟩ d0).setCell ⟨b, 1, none⟩ d1).setCell ⟨b, 2, none⟩ d2).setCell ⟨b, 3, none⟩ d3).setCell ⟨b, 4, none⟩ d4).setCell ⟨b, 5, none⟩ d5).setCell ⟨b, 6, none⟩ d6).heap[b]? = some (.cells #[d0, d1, d2, d3, d4, d5, d6, c7, c8, c9, c10] t (0, 0)) := heap_setCell_same _ b 6 _ _ d6 h5
  have h7 : ((((((((w.setCell ⟨b, 0, none⟩ d0).setCell ⟨b, 1, none⟩ d1).setCell ⟨b, 2, none⟩ d2).setCell ⟨b, 3, none⟩ d3).setCell ⟨b, 4, none⟩ d4).setCell ⟨b, 5, none⟩ d5).setCell ⟨b, 6, none⟩ d6).setCell ⟨b, 7, none⟩ d7).heap[b]? = some (.cells #[d0, d1, d2, d3, d4, d5, d6, d7, c8, c9, c10] t (0, 0)) := heap_setCell_same _ b 7 _ _ d7 h6
  have h8 : (((((((((w.setCell ⟨b, 0, none⟩ d0).setCell ⟨b, 1, none⟩ d1).setCell ⟨b, 2, none⟩ d2).setCell ⟨b, 3, none⟩ d3).setCell ⟨b, 4, none⟩ d4).setCell ⟨b, 5, none⟩ d5).setCell ⟨b, 6, none⟩ d6).setCell ⟨b, 7, none⟩ d7).setCell ⟨b, 8, none⟩ d8).heap[b]? = some (.cells #[d0, d1, d2, d3, d4, d5, d6, d7, d8, c9, c10] t (0, 0)) := heap_setCell_same _ b 8 _ _ d8 h7
  have h9 : ((((((((((w.setCell ⟨b, 0, none⟩ d0).setCell ⟨b, 1, none⟩ d1).setCell ⟨b, 2, none⟩ d2).setCell ⟨b, 3, none⟩ d3).setCell ⟨b, 4, none⟩ d4).setCell ⟨b, 5, none⟩ d5).setCell ⟨b, 6, none⟩ d6).setCell ⟨b, 7, none⟩ d7).setCell ⟨b, 8, none⟩ d8).setCell ⟨b, 9, none⟩ d9).heap[b]? = some (.cells #[d0, d1, d2, d3, d4, d5, d6, d7, d8, d9, c10] t (0, 0)) := heap_setCell_same _ b 9 _ _ d9 h8
  have h10 : (((((((((((w.setCell ⟨b, 0, none⟩ d0).setCell ⟨b, 1, none⟩ d1).setCell ⟨b, 2, none⟩ d2).setCell ⟨b, 3, none⟩ d3).setCell ⟨b, 4, none⟩ d4).setCell ⟨b, 5, none⟩ d5).setCell ⟨b, 6, none⟩ d6).setCell ⟨b, 7, none⟩ d7).setCell ⟨b, 8, none⟩ d8).setCell ⟨b, 9, none⟩ d9).setCell ⟨b, 10, none⟩ d10).heap[b]? = some (.cells #[d0, d1, d2, d3, d4, d5, d6, d7, d8, d9, d10] t (0, 0)) := heap_setCell_same _ b 10 _ _ d10 h9
  exact h10
theorem all_own {w : World} {base b k : Nat} {e : TypeId} {u : Value} {R : List (List Value)} (h : Own w base e k u R) (hb : b < base) (d0 d1 d2 d3 d4 d5 d6 d7 d8 d9 d10 : Value) : Own (((((((((((w.setCell ⟨b, 0, none⟩ d0).setCell ⟨b, 1, none⟩ d1).setCell ⟨b, 2, none⟩ d2).setCell ⟨b, 3, none⟩ d3).setCell ⟨b, 4, none⟩ d4).setCell ⟨b, 5, none⟩ d5).setCell ⟨b, 6, none⟩ d6).setCell ⟨b, 7, none⟩ d7).setCell ⟨b, 8, none⟩ d8).setCell ⟨b, 9, none⟩ d9).setCell ⟨b, 10, none⟩ d10) base e k u R :=
  (((((((((((h.setCell (a := ⟨b, 0, none⟩) hb _).setCell (a := ⟨b, 1, none⟩) hb _).setCell (a := ⟨b, 2, none⟩) hb _).setCell (a := ⟨b, 3, none⟩) hb _).setCell (a := ⟨b, 4, none⟩) hb _).setCell (a := ⟨b, 5, none⟩) hb _).setCell (a := ⟨b, 6, none⟩) hb _).setCell (a := ⟨b, 7, none⟩) hb _).setCell (a := ⟨b, 8, none⟩) hb _).setCell (a := ⟨b, 9, none⟩) hb _).setCell (a := ⟨b, 10, none⟩) hb _)
theorem all_below {w0 w : World} {B b : Nat} (h : Below B w0 w) (hb : B ≤ b) (d0 d1 d2 d3 d4 d5 d6 d7 d8 d9 d10 : Value) : Below B w0 (((((((((((w.setCell ⟨b, 0, none⟩ d0).setCell ⟨b, 1, none⟩ d1).setCell ⟨b, 2, none⟩ d2).setCell ⟨b, 3, none⟩ d3).setCell ⟨b, 4, none⟩ d4).setCell ⟨b, 5, none⟩ d5).setCell ⟨b, 6, none⟩ d6).setCell ⟨b, 7, none⟩ d7).setCell ⟨b, 8, none⟩ d8).setCell ⟨b, 9, none⟩ d9).setCell ⟨b, 10, none⟩ d10) :=
  (((((((((((h.setCell (p := ⟨b, 0, none⟩) hb _).setCell (p := ⟨b, 1, none⟩) hb _).setCell (p := ⟨b, 2, none⟩) hb _).setCell (p := ⟨b, 3, none⟩) hb _).setCell (p := ⟨b, 4, none⟩) hb _).setCell (p := ⟨b, 5, none⟩) hb _).setCell (p := ⟨b, 6, none⟩) hb _).setCell (p := ⟨b, 7, none⟩) hb _).setCell (p := ⟨b, 8, none⟩) hb _).setCell (p := ⟨b, 9, none⟩) hb _).setCell (p := ⟨b, 10, none⟩) hb _)
theorem all_tt {w : World} {P : Nat → Prop} {b len cap : Nat} {a : Option Addr} {R : List (List Int)} (h : TTx w P a len cap R) (hb : ∀ x, P x → x ≠ b) (d0 d1 d2 d3 d4 d5 d6 d7 d8 d9 d10 : Value) : TTx (((((((((((w.setCell ⟨b, 0, none⟩ d0).setCell ⟨b, 1, none⟩ d1).setCell ⟨b, 2, none⟩ d2).setCell ⟨b, 3, none⟩ d3).setCell ⟨b, 4, none⟩ d4).setCell ⟨b, 5, none⟩ d5).setCell ⟨b, 6, none⟩ d6).setCell ⟨b, 7, none⟩ d7).setCell ⟨b, 8, none⟩ d8).setCell ⟨b, 9, none⟩ d9).setCell ⟨b, 10, none⟩ d10) P a len cap R :=
  (((((((((((h.set hb 0 _).set hb 1 _).set hb 2 _).set hb 3 _).set hb 4 _).set hb 5 _).set hb 6 _).set hb 7 _).set hb 8 _).set hb 9 _).set hb 10 _)
theorem b_set {w : World} {b : Nat} {c0 c1 c2 c3 c4 c5 c6 c7 c8 c9 c10 : Value} {t : TypeId} (h : w.heap[b]? = some (.cells #[c0, c1, c2, c3, c4, c5, c6, c7, c8, c9, c10] t (0, 0))) (d0 d1 : Value) :
    ((w.setCell ⟨b, 0, none⟩ d0).setCell ⟨b, 1, none⟩ d1).heap[b]? = some (.cells #[d0, d1, c2, c3, c4, c5, c6, c7, c8, c9, c10] t (0, 0)) := by
  have h0 : (w.setCell ⟨b, 0, none⟩ d0).heap[b]? = some (.cells #[d0, c1, c2, c3, c4, c5, c6, c7, c8, c9, c10] t (0, 0)) := heap_setCell_same _ b 0 _ _ d0 h
  have h1 : ((w.setCell ⟨b, 0, none⟩ d0).setCell ⟨b, 1, none⟩ d1).heap[b]? = some (.cells #[d0, d1, c2, c3, c4, c5, c6, c7, c8, c9, c10] t (0, 0)) := heap_setCell_same _ b 1 _ _ d1 h0
  exact h1
theorem b_own {w : World} {base b k : Nat} {e : TypeId} {u : Value} {R : List (List Value)} (h : Own w base e k u R) (hb : b < base) (d0 d1 : Value) : Own ((w.setCell ⟨b, 0, none⟩ d0).setCell ⟨b, 1, none⟩ d1) base e k u R :=
  ((h.setCell (a := ⟨b, 0, none⟩) hb _).setCell (a := ⟨b, 1, none⟩) hb _)
theorem b_below {w0 w : World} {B b : Nat} (h : Below B w0 w) (hb : B ≤ b) (d0 d1 : Value) : Below B w0 ((w.setCell ⟨b, 0, none⟩ d0).setCell ⟨b, 1, none⟩ d1) :=
  ((h.setCell (p := ⟨b, 0, none⟩) hb _).setCell (p := ⟨b, 1, none⟩) hb _)
theorem b_tt {w : World} {P : Nat → Prop} {b len cap : Nat} {a : Option Addr} {R : List (List Int)} (h : TTx w P a len cap R) (hb : ∀ x, P x → x ≠ b) (d0 d1 : Value) : TTx ((w.setCell ⟨b, 0, none⟩ d0).setCell ⟨b, 1, none⟩ d1) P a len cap R :=
  ((h.set hb 0 _).set hb 1 _)
theorem f_set {w : World} {b : Nat} {c0 c1 c2 c3 c4 c5 c6 c7 c8 c9 c10 : Value} {t : TypeId} (h : w.heap[b]? = some (.cells #[c0, c1, c2, c3, c4, c5, c6, c7, c8, c9, c10] t (0, 0))) (d2 d3 d4 : Value) :
    (((w.setCell ⟨b, 2, none⟩ d2).setCell ⟨b, 3, none⟩ d3).setCell ⟨b, 4, none⟩ d4).heap[b]? = some (.cells #[c0, c1, d2, d3, d4, c5, c6, c7, c8, c9, c10] t (0, 0)) := by
  have h0 : (w.setCell ⟨b, 2, none⟩ d2).heap[b]? = some (.cells #[c0, c1, d2, c3, c4, c5, c6, c7, c8, c9, c10] t (0, 0)) := heap_setCell_same _ b 2 _ _ d2 h
  have h1 : ((w.setCell ⟨b, 2, none⟩ d2).setCell ⟨b, 3, none⟩ d3).heap[b]? = some (.cells #[c0, c1, d2, d3, c4, c5, c6, c7, c8, c9, c10] t (0, 0)) := heap_setCell_same _ b 3 _ _ d3 h0
  have h2 : (((w.setCell ⟨b, 2, none⟩ d2).setCell ⟨b, 3, none⟩ d3).setCell ⟨b, 4, none⟩ d4).heap[b]? = some (.cells #[c0, c1, d2, d3, d4, c5, c6, c7, c8, c9, c10] t (0, 0)) := heap_setCell_same _ b 4 _ _ d4 h1
  exact h2
theorem f_own {w : World} {base b k : Nat} {e : TypeId} {u : Value} {R : List (List Value)} (h : Own w base e k u R) (hb : b < base) (d2 d3 d4 : Value) : Own (((w.setCell ⟨b, 2, none⟩ d2).setCell ⟨b, 3, none⟩ d3).setCell ⟨b, 4, none⟩ d4) base e k u R :=
  (((h.setCell (a := ⟨b, 2, none⟩) hb _).setCell (a := ⟨b, 3, none⟩) hb _).setCell (a := ⟨b, 4, none⟩) hb _)
theorem f_below {w0 w : World} {B b : Nat} (h : Below B w0 w) (hb : B ≤ b) (d2 d3 d4 : Value) : Below B w0 (((w.setCell ⟨b, 2, none⟩ d2).setCell ⟨b, 3, none⟩ d3).setCell ⟨b, 4, none⟩ d4) :=
  (((h.setCell (p := ⟨b, 2, none⟩) hb _).setCell (p := ⟨b, 3, none⟩) hb _).setCell (p := ⟨b, 4, none⟩) hb _)
theorem f_tt {w : World} {P : Nat → Prop} {b len cap : Nat} {a : Option Addr} {R : List (List Int)} (h : TTx w P a len cap R) (hb : ∀ x, P x → x ≠ b) (d2 d3 d4 : Value) : TTx (((w.setCell ⟨b, 2, none⟩ d2).setCell ⟨b, 3, none⟩ d3).setCell ⟨b, 4, none⟩ d4) P a len cap R :=
  (((h.set hb 2 _).set hb 3 _).set hb 4 _)
theorem t_set {w : World} {b : Nat} {c0 c1 c2 c3 c4 c5 c6 c7 c8 c9 c10 : Value} {t : TypeId} (h : w.heap[b]? = some (.cells #[c0, c1, c2, c3, c4, c5, c6, c7, c8, c9, c10] t (0, 0))) (d5 d6 : Value) :
    ((w.setCell ⟨b, 5, none⟩ d5).setCell ⟨b, 6, none⟩ d6).heap[b]? = some (.cells #[c0, c1, c2, c3, c4, d5, d6, c7, c8, c9, c10] t (0, 0)) := by
  have h0 : (w.setCell ⟨b, 5, none⟩ d5).heap[b]? = some (.cells #[c0, c1, c2, c3, c4, d5, c6, c7, c8, c9, c10] t (0, 0)) := heap_setCell_same _ b 5 _ _ d5 h
  have h1 : ((w.setCell ⟨b, 5, none⟩ d5).setCell ⟨b, 6, none⟩ d6).heap[b]? = some (.cells #[c0, c1, c2, c3, c4, d5, d6, c7, c8, c9, c10] t (0, 0)) := heap_setCell_same _ b 6 _ _ d6 h0
  exact h1
theorem t_own {w : World} {base b k : Nat} {e : TypeId} {u : Value} {R : List (List Value)} (h : Own w base e k u R) (hb : b < base) (d5 d6 : Value) : Own ((w.setCell ⟨b, 5, none⟩ d5).setCell ⟨b, 6, none⟩ d6) base e k u R :=
  ((h.setCell (a := ⟨b, 5, none⟩) hb _).setCell (a := ⟨b, 6, none⟩) hb _)
theorem t_below {w0 w : World} {B b : Nat} (h : Below B w0 w) (hb : B ≤ b) (d5 d6 : Value) : Below B w0 ((w.setCell ⟨b, 5, none⟩ d5).setCell ⟨b, 6, none⟩ d6) :=
  ((h.setCell (p := ⟨b, 5, none⟩) hb _).setCell (p := ⟨b, 6, none⟩) hb _)
theorem t_tt {w : World} {P : Nat → Prop} {b len cap : Nat} {a : Option Addr} {R : List (List Int)} (h : TTx w P a len cap R) (hb : ∀ x, P x → x ≠ b) (d5 d6 : Value) : TTx ((w.setCell ⟨b, 5, none⟩ d5).setCell ⟨b, 6, none⟩ d6) P a len cap R :=
  ((h.set hb 5 _).set hb 6 _)
theorem r_set {w : World} {b : Nat} {c0 c1 c2 c3 c4 c5 c6 c7 c8 c9 c10 : Value} {t : TypeId} (h : w.heap[b]? = some (.cells #[c0, c1, c2, c3, c4, c5, c6, c7, c8, c9, c10] t (0, 0))) (d7 : Value) :
    (w.setCell ⟨b, 7, none⟩ d7).heap[b]? = some (.cells #[c0, c1, c2, c3, c4, c5, c6, d7, c8, c9, c10] t (0, 0)) := by
  have h0 : (w.setCell ⟨b, 7, none⟩ d7).heap[b]? = some (.cells #[c0, c1, c2, c3, c4, c5, c6, d7, c8, c9, c10] t (0, 0)) := heap_setCell_same _ b 7 _ _ d7 h
  exact h0
theorem r_own {w : World} {base b k : Nat} {e : TypeId} {u : Value} {R : List (List Value)} (h : Own w base e k u R) (hb : b < base) (d7 : Value) : Own (w.setCell ⟨b, 7, none⟩ d7) base e k u R :=
  (h.setCell (a := ⟨b, 7, none⟩) hb _)
theorem r_below {w0 w : World} {B b : Nat} (h : Below B w0 w) (hb : B ≤ b) (d7 : Value) : Below B w0 (w.setCell ⟨b, 7, none⟩ d7) :=
  (h.setCell (p := ⟨b, 7, none⟩) hb _)
theorem r_tt {w : World} {P : Nat → Prop} {b len cap : Nat} {a : Option Addr} {R : List (List Int)} (h : TTx w P a len cap R) (hb : ∀ x, P x → x ≠ b) (d7 : Value) : TTx (w.setCell ⟨b, 7, none⟩ d7) P a len cap R :=
  (h.set hb 7 _)
theorem c_set {w : World} {b : Nat} {c0 c1 c2 c3 c4 c5 c6 c7 c8 c9 c10 : Value} {t : TypeId} (h : w.heap[b]? = some (.cells #[c0, c1, c2, c3, c4, c5, c6, c7, c8, c9, c10] t (0, 0))) (d8 d9 d10 : Value) :
    (((w.setCell ⟨b, 8, none⟩ d8).setCell ⟨b, 9, none⟩ d9).setCell ⟨b, 10, none⟩ d10).heap[b]? = some (.cells #[c0, c1, c2, c3, c4, c5, c6, c7, d8, d9, d10] t (0, 0)) := by
  have h0 : (w.setCell ⟨b, 8, none⟩ d8).heap[b]? = some (.cells #[c0, c1, c2, c3, c4, c5, c6, c7, d8, c9, c10] t (0, 0)) := heap_setCell_same _ b 8 _ _ d8 h
  have h1 : ((w.setCell ⟨b, 8, none⟩ d8).setCell ⟨b, 9, none⟩ d9).heap[b]? = some (.cells #[c0, c1, c2, c3, c4, c5, c6, c7, d8, d9, c10] t (0, 0)) := heap_setCell_same _ b 9 _ _ d9 h0
  have h2 : (((w.setCell ⟨b, 8, none⟩ d8).setCell ⟨b, 9, none⟩ d9).setCell ⟨b, 10, none⟩ d10).heap[b]? = some (.cells #[c0, c1, c2, c3, c4, c5, c6, c7, d8, d9, d10] t (0, 0)) := heap_setCell_same _ b 10 _ _ d10 h1
  exact h2
theorem c_own {w : World} {base b k : Nat} {e : TypeId} {u : Value} {R : List (List Value)} (h : Own w base e k u R) (hb : b < base) (d8 d9 d10 : Value) : Own (((w.setCell ⟨b, 8, none⟩ d8).setCell ⟨b, 9, none⟩ d9).setCell ⟨b, 10, none⟩ d10) base e k u R :=
  (((h.setCell (a := ⟨b, 8, none⟩) hb _).setCell (a := ⟨b, 9, none⟩) hb _).setCell (a := ⟨b, 10, none⟩) hb _)
theorem c_below {w0 w : World} {B b : Nat} (h : Below B w0 w) (hb : B ≤ b) (d8 d9 d10 : Value) : Below B w0 (((w.setCell ⟨b, 8, none⟩ d8).setCell ⟨b, 9, none⟩ d9).setCell ⟨b, 10, none⟩ d10) :=
  (((h.setCell (p := ⟨b, 8, none⟩) hb _).setCell (p := ⟨b, 9, none⟩) hb _).setCell (p := ⟨b, 10, none⟩) hb _)
theorem c_tt {w : World} {P : Nat → Prop} {b len cap : Nat} {a : Option Addr} {R : List (List Int)} (h : TTx w P a len cap R) (hb : ∀ x, P x → x ≠ b) (d8 d9 d10 : Value) : TTx (((w.setCell ⟨b, 8, none⟩ d8).setCell ⟨b, 9, none⟩ d9).setCell ⟨b, 10, none⟩ d10) P a len cap R :=
  (((h.set hb 8 _).set hb 9 _).set hb 10 _)
end Five
end Go.Proofs.Ytffgoekdjcempab
