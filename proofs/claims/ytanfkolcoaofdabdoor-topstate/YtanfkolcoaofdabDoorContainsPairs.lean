/- slices.Index and slices.Contains on slices of api.Pair, where the first element is the one that is asked for. -/
import Derived.Test.YtanfkolcoaofdabDoorEqualPairs
import Derived.Test.YtanfkolcoaofdabDoorOwnMore
import Derived.Deep.LoopGhost
import Derived.BigQuiet
namespace Go.Proofs.YtanfkolcoaofdabDoor
open Go.ChangeShapes Go.WideShapes Go.ChangeAt Go.RowKit

theorem eql_pairs (a0 a1 : ByteArray) (w : World) : (binOp .eql 45 (.agg #[.string a0, .string a1]) (.agg #[.string a0, .string a1])).run Tryd.prog w = .ok (.bool true) w := by
  rw [run_eql_struct, run_equalIn_agg w 9999 45 _ _ (by simp [Program.fieldsOf, Tryd.underlying45]) held_pairs]
  simp [go_sem, Program.fieldsOf, Tryd.underlying45, Op.eqFields]
set_option maxRecDepth 100000 in
set_option maxHeartbeats 1000000 in
theorem index_first (a : Option Addr) (len cap : Nat) (L : List (ByteArray × ByteArray)) (p : ByteArray × ByteArray) (w : World) (h : Tab w a len cap 2 (L.map ssC)) (hL : L[0]? = some p) :
    Calls Tryd.prog 42 #[.slice a len cap, .agg #[.string p.1, .string p.2]] w fun e w' => e = .returned (.int .i64 0) ∧ Below w.heap.size w w' := by
  obtain ⟨p1, p2⟩ := p
  have hl := h.hlen
  rw [List.length_map] at hl
  have hm := h.hmax
  have he := h.hle
  unfold maxLen at hm
  have h0 : 0 < len := by have := (List.getElem?_eq_some_iff.1 hL).1; omega
  have hbA : Below w.heap.size w (w.alloc (.cells #[.string p1, .string p2] 45)) := (Below.refl _ _).alloc (Nat.le_refl _) _
  obtain ⟨b, off, ha, hbs, c1, c2⟩ := h.two hbA (map_get hL)
  subst ha
  rw [Nat.zero_mul, Nat.add_zero] at c1 c2
  have hx : (w.alloc (.cells #[.string p1, .string p2] 45)).heap[w.heap.size]? = some (.cells #[.string p1, .string p2] 45 (0, 0)) := (MapKept.heap_alloc _ _).1
  have d1 : (w.alloc (.cells #[.string p1, .string p2] 45)).cell? ⟨w.heap.size, 0, none⟩ = some (.string p1) := cell_blk hx rfl
  have d2 : (w.alloc (.cells #[.string p1, .string p2] 45)).cell? ⟨w.heap.size, 1, none⟩ = some (.string p2) := cell_blk hx rfl
  have eq := eql_pairs p1 p2
  have HB := Lib.hid hbA
  clear h hL hl hx hbA
  go_enter Tryd.func42, Tryd.ntmps42
  go_wp2
  go_loopg [8] 1 (fun g i wr => i = .int .i64 0 ∧ wr = w.alloc (.cells #[.string p1, .string p2] 45))
  case atStart => exact ⟨rfl, rfl⟩
  case round =>
    obtain ⟨rfl, rfl⟩ := hrel
    go_wp2
    go_quiet (fail)
    go_wp2
    go_ret
    exact ⟨rfl, below_drewN HB.out _⟩
set_option maxRecDepth 100000 in
set_option maxHeartbeats 1000000 in
theorem contains_first (a : Option Addr) (len cap : Nat) (L : List (ByteArray × ByteArray)) (p : ByteArray × ByteArray) (w : World) (h : Tab w a len cap 2 (L.map ssC)) (hL : L[0]? = some p) :
    Calls Tryd.prog 18 #[.slice a len cap, .agg #[.string p.1, .string p.2]] w fun e w' => e = .returned (.bool true) ∧ Below w.heap.size w w' := by
  obtain ⟨p1, p2⟩ := p
  have hbA : Below w.heap.size w (w.alloc (.cells #[.string p1, .string p2] 45)) := (Below.refl _ _).alloc (Nat.le_refl _) _
  have C := Lib.hid (index_first a len cap L (p1, p2) _ (h.below hbA) hL)
  have hx : (w.alloc (.cells #[.string p1, .string p2] 45)).heap[w.heap.size]? = some (.cells #[.string p1, .string p2] 45 (0, 0)) := (MapKept.heap_alloc _ _).1
  have d1 : (w.alloc (.cells #[.string p1, .string p2] 45)).cell? ⟨w.heap.size, 0, none⟩ = some (.string p1) := cell_blk hx rfl
  have d2 : (w.alloc (.cells #[.string p1, .string p2] 45)).cell? ⟨w.heap.size, 1, none⟩ = some (.string p2) := cell_blk hx rfl
  have HB := Lib.hid hbA
  clear h hL hx hbA
  go_enter Tryd.func18, Tryd.ntmps18
  go_wp2_with fail
  refine C.out.mono ?_
  rintro e w1 ⟨rfl, hb1⟩
  go_wp2
  go_ret
  exact ⟨rfl, below_on HB.out hb1⟩

end Go.Proofs.YtanfkolcoaofdabDoor
