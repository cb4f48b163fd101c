/- A sketch of what comes often as a value, and its cells in a block. -/
import Derived.Test.YtffgoekdjcempaaGreatFewMath
import Derived.Test.YtffgoekdjcempaaGreatGr3
import Derived.BigQuiet
import Derived.Deep.DeepCutAuto
import Derived.Deep.LoopGhost
namespace Go.Proofs.YtffgoekdjcempaaGreat
open Go.ChangeShapes Go.WideShapes Go.ChangeAt Go.RowKit
open Few

def fewV (K L : Int) (a : Option Addr) (len cap : Nat) : Value := .agg #[.int .i64 K, .int .i64 L, .slice a len cap]

namespace Few
theorem three_cells {w : World} {b : Nat} {x y : Int} {v : Value} {t : TypeId} (h : w.heap[b]? = some (.cells #[.int .i64 x, .int .i64 y, v] t (0, 0))) :
    w.cell? ⟨b, 0, none⟩ = some (.int .i64 x) ∧ w.cell? ⟨b, 1, none⟩ = some (.int .i64 y) ∧ w.cell? ⟨b, 2, none⟩ = some v :=
  ⟨cell_blk h rfl, cell_blk h rfl, cell_blk h rfl⟩
theorem pair_cells {w : World} {b : Nat} {x y : Int} {t : TypeId} (h : w.heap[b]? = some (.cells #[.int .i64 x, .int .i64 y] t (0, 0))) :
    w.cell? ⟨b, 0, none⟩ = some (.int .i64 x) ∧ w.cell? ⟨b, 1, none⟩ = some (.int .i64 y) :=
  ⟨cell_blk h rfl, cell_blk h rfl⟩
theorem kept_blk {w1 w2 : World} {b : Nat} {o : Obj} (hb : Below w1.heap.size w1 w2) (h : w1.heap[b]? = some o) : w2.heap[b]? = some o :=
  (hb.block b (Array.getElem?_eq_some_iff.1 h).1).trans h
theorem three_all {w : World} {b : Nat} {x y : Int} {v : Value} {t : TypeId} (h : w.heap[b]? = some (.cells #[.int .i64 x, .int .i64 y, v] t (0, 0))) :
    (w.cell? ⟨b, 0, none⟩ = some (.int .i64 x) ∧ w.cell? ⟨b, 1, none⟩ = some (.int .i64 y) ∧ w.cell? ⟨b, 2, none⟩ = some v) ∧ w.frozen? ⟨b, 0, none⟩ = false ∧ w.frozen? ⟨b, 1, none⟩ = false ∧ w.frozen? ⟨b, 2, none⟩ = false :=
  ⟨⟨cell_blk h rfl, cell_blk h rfl, cell_blk h rfl⟩, frozen_blk h, frozen_blk h, frozen_blk h⟩
theorem three_set {w : World} {b : Nat} {x y x' y' : Int} {v v' : Value} {t : TypeId} (h : w.heap[b]? = some (.cells #[.int .i64 x, .int .i64 y, v] t (0, 0))) :
    (((w.setCell ⟨b, 0, none⟩ (.int .i64 x')).setCell ⟨b, 1, none⟩ (.int .i64 y')).setCell ⟨b, 2, none⟩ v').heap[b]? = some (.cells #[.int .i64 x', .int .i64 y', v'] t (0, 0)) := by
  have h0 := heap_setCell_same w b 0 _ _ (.int .i64 x') h
  have h1 := heap_setCell_same _ b 1 _ _ (.int .i64 y') h0
  have h2 := heap_setCell_same _ b 2 _ _ v' h1
  rw [h2]
  rfl
/-- the three stores with which a sketch is answered: the box, what lies below, a slice of the call's own -/
theorem three_below {w0 w : World} {B b : Nat} (h : Below B w0 w) (hb : B ≤ b) (x y : Int) (v : Value) : Below B w0 (((w.setCell ⟨b, 0, none⟩ (.int .i64 x)).setCell ⟨b, 1, none⟩ (.int .i64 y)).setCell ⟨b, 2, none⟩ v) :=
  ((h.setCell (p := ⟨b, 0, none⟩) hb _).setCell (p := ⟨b, 1, none⟩) hb _).setCell (p := ⟨b, 2, none⟩) hb _
theorem three_own {w : World} {base b k : Nat} {e : TypeId} {u : Value} {R : List (List Value)} (h : Own w base e k u R) (hb : b < base) (x y : Int) (v : Value) : Own (((w.setCell ⟨b, 0, none⟩ (.int .i64 x)).setCell ⟨b, 1, none⟩ (.int .i64 y)).setCell ⟨b, 2, none⟩ v) base e k u R :=
  ((h.setCell (a := ⟨b, 0, none⟩) hb _).setCell (a := ⟨b, 1, none⟩) hb _).setCell (a := ⟨b, 2, none⟩) hb _
/-- a list of counters of the call's own, as a slice -/
theorem own_ctrs {w : World} {base : Nat} {e : TypeId} {v : Value} {C : List (Int × Int)} {n : Nat} (h : Own w base e 2 v (C.map iiC)) (hn : C.length = n) : ∃ a cap, v = .slice a n cap ∧ Tab w a n cap 2 (C.map iiC) := by
  obtain ⟨a, cap, rfl, T⟩ := h.tab
  rw [List.length_map, hn] at T ⊢
  exact ⟨a, cap, rfl, T⟩
end Few

end Go.Proofs.YtffgoekdjcempaaGreat
