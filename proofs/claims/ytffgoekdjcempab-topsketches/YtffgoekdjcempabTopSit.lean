/- Five sketches in a variable that is written no more, and one joined sketch in a variable. Shapes alone. -/
import Derived.Test.YtffgoekdjcempabTopFill
namespace Go.Proofs.Ytffgoekdjcempab
open Go.ChangeShapes Go.WideShapes Go.ChangeAt Go.RowKit
open Tbl Five
open Few (kept_blk)
namespace Five
structure Sit (w : World) (Y : Nat) (v1 v2 : Value) (a : Option Addr) (c : Nat) (v4 : Value) (L : Int) (C : List (Int × Int)) (v5 : Value) (l : List Int) : Prop where
  box : w.heap[Y]? = some (.cells #[.int .i64 5, v1, .int .i64 100, .int .i64 3, v2, .int .i64 7, .slice a 2 c, v4, .int .i64 4, .int .i64 L, v5] 71 (0, 0))
  hold : Hold w 0 v1 v2 a c v4 L C v5 l
theorem Sit.below {w w' : World} {Y : Nat} {v1 v2 : Value} {a : Option Addr} {c : Nat} {v4 : Value} {L : Int} {C : List (Int × Int)} {v5 : Value} {l : List Int} (h : Sit w Y v1 v2 a c v4 L C v5 l) (hb : Below w.heap.size w w') : Sit w' Y v1 v2 a c v4 L C v5 l :=
  ⟨kept_blk hb h.box, h.hold.below hb⟩
theorem Sit.new {w : World} {base : Nat} {v1 v2 : Value} {a : Option Addr} {c : Nat} {v4 : Value} {L : Int} {C : List (Int × Int)} {v5 : Value} {l : List Int} (h : Hold w base v1 v2 a c v4 L C v5 l) :
    Sit (w.alloc (.cells #[.int .i64 5, v1, .int .i64 100, .int .i64 3, v2, .int .i64 7, .slice a 2 c, v4, .int .i64 4, .int .i64 L, v5] 71)) w.heap.size v1 v2 a c v4 L C v5 l :=
  ⟨(MapKept.heap_alloc w _).1, (h.base_le (Nat.zero_le _)).below ((Below.refl _ _).alloc (Nat.le_refl _) _)⟩
/-- one own slice behind some cells in a variable -/
structure Put1 (w : World) (Y : Nat) (cs : Array Value) (t : TypeId) (e : TypeId) (k : Nat) (v : Value) (R : List (List Value)) : Prop where
  box : w.heap[Y]? = some (.cells cs t (0, 0))
  own : Own w 0 e k v R
theorem Put1.below {w w' : World} {Y : Nat} {cs : Array Value} {t e : TypeId} {k : Nat} {v : Value} {R : List (List Value)} (h : Put1 w Y cs t e k v R) (hb : Below w.heap.size w w') : Put1 w' Y cs t e k v R := ⟨kept_blk hb h.box, h.own.below hb⟩
theorem Put1.new {w : World} {base : Nat} {cs : Array Value} {t e : TypeId} {k : Nat} {v : Value} {R : List (List Value)} (h : Own w base e k v R) : Put1 (w.alloc (.cells cs t)) w.heap.size cs t e k v R :=
  ⟨(MapKept.heap_alloc w _).1, (h.base_le (Nat.zero_le _)).below ((Below.refl _ _).alloc (Nat.le_refl _) _)⟩
structure PutT (w : World) (Y : Nat) (a : Option Addr) (c : Nat) (l : List Int) : Prop where
  box : w.heap[Y]? = some (.cells #[.int .i64 7, .slice a 2 c] 27 (0, 0))
  tt : TTx w anyB a 2 c (fT l)
theorem PutT.below {w w' : World} {Y : Nat} {a : Option Addr} {c : Nat} {l : List Int} (h : PutT w Y a c l) (hb : Below w.heap.size w w') : PutT w' Y a c l := ⟨kept_blk hb h.box, h.tt.below hb⟩
theorem PutT.new {w : World} {P : Nat → Prop} {a : Option Addr} {c : Nat} {l : List Int} (h : TTx w P a 2 c (fT l)) : PutT (w.alloc (.cells #[.int .i64 7, .slice a 2 c] 27)) w.heap.size a c l :=
  ⟨(MapKept.heap_alloc w _).1, h.any.below ((Below.refl _ _).alloc (Nat.le_refl _) _)⟩
theorem allocB {w : World} (o : Obj) : Below w.heap.size w (w.alloc o) := (Below.refl _ _).alloc (Nat.le_refl _) _
end Five
end Go.Proofs.Ytffgoekdjcempab
