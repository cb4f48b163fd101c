/- The contract of the program's bottom.Join, where both may be joined. -/
import Derived.Test.YtffgoekdjcempabGr24
namespace Go.Proofs.Ytffgoekdjcempab
open Go.ChangeShapes Go.WideShapes Go.ChangeAt Go.RowKit
open Least

theorem cell_off {w : World} {a b : Addr} {v : Value} (h : a.block ≠ b.block) : (w.setCell b v).cell? a = w.cell? a := World.cell?_of_block (Below.heap_setCell _ _ _ _ h)

set_option maxRecDepth 100000 in
set_option maxHeartbeats 2000000 in
theorem bjoin_ok (k : Nat) (a b : Option Addr) (len cap len2 cap2 : Nat) (l m : List Int) (w : World) (h : Tab w a len cap 1 (l.map iC)) (h2 : Tab w b len2 cap2 1 (m.map iC)) (hE : bottomE k l = 0) (hE2 : bottomE k m = 0) :
    Calls Try.prog 38 #[bottomV k a len cap, bottomV k b len2 cap2] w fun e w' => ∃ v, e = .returned (.tuple #[.agg #[.int .i64 k, v], .int .i64 0]) ∧ Own w' w.heap.size 3 1 v ((T k (l ++ m)).map iC) ∧ Below w.heap.size w w' := by
  obtain ⟨k1, k2, hlk, _⟩ := bottomE_zero hE
  obtain ⟨_, _, hlk2, _⟩ := bottomE_zero hE2
  have hl := h.hlen
  rw [List.length_map] at hl
  have hl0 : l.length = len := hl
  have hl2 := h2.hlen
  rw [List.length_map] at hl2
  have hl20 : m.length = len2 := hl2
  have HW1 := fun W (hT : Tab W a len cap 1 (l.map iC)) => bcheck_any k a len cap l W hT
  rw [hE] at HW1
  have HW := Lib.hid HW1
  have HW3 := fun W (hT : Tab W b len2 cap2 1 (m.map iC)) => bcheck_any k b len2 cap2 m W hT
  rw [hE2] at HW3
  have HW2 := Lib.hid HW3
  have HC := Lib.hid (fun (W : World) (hT : Tab W a len cap 1 (l.map iC)) (hN : Tab W b len2 cap2 1 (m.map iC)) => least_any k a b len cap len2 cap2 l m W hT hN (by omega) (by omega) (by omega))
  have hbx : Below w.heap.size w (((w.alloc (.cells #[.int .i64 k, .slice a len cap] 69)).alloc (.cells #[.int .i64 k, .slice b len2 cap2] 69)).alloc (.cells #[.int .i64 0, .slice none 0 0] 69)) := (((Below.refl _ _).alloc (Nat.le_refl _) _).alloc (by simp) _).alloc (by simp; omega) _
  have HTX := Lib.hid (h.below hbx)
  have HT := Lib.hid h
  have HT2 := Lib.hid h2
  have HBX := Lib.hid hbx
  have t9 : ((k : Int) != (k : Int)) = false := by simp
  clear hE hE2 hbx h h2 hl hl0 hlk hl2 hl20 hlk2 HW1 HW3
  unfold bottomV at HW HW2 ⊢
  go_enter Try.func38, Try.ntmps38
  go_wp2_with fail
  refine (HW.out _ HTX.out).mono ?_
  rintro e w0 ⟨rfl, hb0⟩
  have hj1 : w0.heap[w.heap.size]? = some (.cells #[.int .i64 k, .slice a len cap] 69 (0, 0)) := by
    rw [hb0.block w.heap.size (by simp; omega), Below.heap_alloc _ _ _ (by simp; omega), Below.heap_alloc _ _ _ (by simp)]
    exact (MapKept.heap_alloc w _).1
  have hj2 : w0.heap[w.heap.size + 1]? = some (.cells #[.int .i64 k, .slice b len2 cap2] 69 (0, 0)) := by
    rw [hb0.block (w.heap.size + 1) (by simp), Below.heap_alloc _ _ _ (by simp)]
    have := (MapKept.heap_alloc (w.alloc (.cells #[.int .i64 k, .slice a len cap] 69)) (.cells #[.int .i64 k, .slice b len2 cap2] 69)).1
    simpa using this
  have hj3 : w0.heap[w.heap.size + 1 + 1]? = some (.cells #[.int .i64 0, .slice none 0 0] 69 (0, 0)) := by
    rw [hb0.block (w.heap.size + 1 + 1) (by simp)]
    have := (MapKept.heap_alloc ((w.alloc (.cells #[.int .i64 k, .slice a len cap] 69)).alloc (.cells #[.int .i64 k, .slice b len2 cap2] 69)) (.cells #[.int .i64 0, .slice none 0 0] 69)).1
    simpa using this
  have hB0 := below_on HBX.out hb0
  obtain ⟨⟨y0, y1⟩, y2, y3⟩ := two_cells hj2
  have C2 := Lib.hid (HW2.out w0 (HT2.out.below hB0))
  have HB0 := Lib.hid hB0
  have J1 := Lib.hid hj1
  have J2 := Lib.hid hj2
  have J3 := Lib.hid hj3
  clear HW hb0 hj1 hj2 hj3 hB0 HTX HBX HW2
  go_wp2_with fail
  refine C2.out.mono ?_
  rintro e w1 ⟨rfl, hb1⟩
  have hk1 := kept_blk hb1 J1.out
  have hk2 := kept_blk hb1 J2.out
  have hk3 := kept_blk hb1 J3.out
  have HB1 := Lib.hid (below_on HB0.out hb1)
  have hs1 : w.heap.size + 1 + 1 < w1.heap.size := (Array.getElem?_eq_some_iff.1 hk3).1
  obtain ⟨⟨c0, c1⟩, f0, f1⟩ := two_cells hk1
  obtain ⟨⟨g0, g1⟩, x0, x1⟩ := two_cells hk2
  have KA1 := Lib.hid hk1
  have KA2 := Lib.hid hk2
  have KA3 := Lib.hid hk3
  have HTA := Lib.hid (HT.out.below HB1.out)
  have HNA := Lib.hid (HT2.out.below HB1.out)
  have HSA := Lib.hid hs1
  clear hb1 HT HT2 hk1 hk2 hk3 J1 J2 J3 C2 HB0 y0 y1 y2 y3
  go_wp2_with fail
  go_region_held3 (fun W => W.cell? ⟨w.heap.size, 0, none⟩ = some (.int .i64 k) ∧ W.cell? ⟨w.heap.size, 1, none⟩ = some (.slice a len cap) ∧ W.cell? ⟨w.heap.size + 1, 1, none⟩ = some (.slice b len2 cap2)) (first | exact ⟨c0, c1, g1⟩ | exact ⟨d0, d1, p1⟩ | exact ⟨(cell_off (by show w.heap.size ≠ w.heap.size + 1 + 1; omega)).trans ((cell_off (by show w.heap.size ≠ w.heap.size + 1 + 1; omega)).trans d0), (cell_off (by show w.heap.size ≠ w.heap.size + 1 + 1; omega)).trans ((cell_off (by show w.heap.size ≠ w.heap.size + 1 + 1; omega)).trans d1), (cell_off (by show w.heap.size + 1 ≠ w.heap.size + 1 + 1; omega)).trans ((cell_off (by show w.heap.size + 1 ≠ w.heap.size + 1 + 1; omega)).trans p1)⟩ | go_keep) (first | (go_at_call 65; refine Calls.mono (HC.out _ ?_ ?_) ?_; (first | exact HTA.out | exact HTA.out.below ((Below.refl _ _).drew)); (first | exact HNA.out | exact HNA.out.below ((Below.refl _ _).drew)); rintro e w2 ⟨v2, rfl, hO2, hb2⟩; obtain ⟨a2, cap3, rfl, hT2⟩ := hO2.tab; obtain ⟨⟨d0, d1⟩, q0, q1⟩ := two_cells (kept_blk hb2 KA1.out); obtain ⟨⟨p0, p1⟩, p2, p3⟩ := two_cells (kept_blk hb2 KA2.out); obtain ⟨⟨e0, e1⟩, r0, r1⟩ := two_cells (kept_blk hb2 KA3.out)))
  all_goals (go_wp2_with fail)
  all_goals
    have Z := two_cells (two_set (K' := k) (v' := .slice a2 (T k (l ++ m)).length cap3) (kept_blk hb2 KA3.out))
    have hO3 := (hO2.setCell (a := ⟨w.heap.size + 1 + 1, 0, none⟩) (by exact HSA.out) (.int .i64 k)).setCell (a := ⟨w.heap.size + 1 + 1, 1, none⟩) (by exact HSA.out) (.slice a2 (T k (l ++ m)).length cap3)
    have hb3 : Below w.heap.size w _ := ((below_on HB1.out (drew_below hb2)).setCell (p := ⟨w.heap.size + 1 + 1, 0, none⟩) (by show w.heap.size ≤ w.heap.size + 1 + 1; omega) (.int .i64 k)).setCell (p := ⟨w.heap.size + 1 + 1, 1, none⟩) (by show w.heap.size ≤ w.heap.size + 1 + 1; omega) (.slice a2 (T k (l ++ m)).length cap3)
    generalize ((w2.setCell { block := w.heap.size + 1 + 1, off := 0 } (Value.int IntKind.i64 k)).setCell { block := w.heap.size + 1 + 1, off := 1 } (Value.slice a2 (T k (l ++ m)).length cap3)) = w3 at *
    clear d0 d1 e0 e1 q0 q1 r0 r1 c0 c1 f0 f1 g0 g1 x0 x1 p0 p1 p2 p3
    obtain ⟨⟨z0, z1⟩, _, _⟩ := Z
    try simp only [Exit.inBlock, Exit.then]
    refine bodyPost_ret (by simp [results, Try.results38, go_sem, z0, z1, Result.andThen]; try rfl) rfl ?_
    rw [List.length_map] at hO3
    exact ⟨_, rfl, hO3.base_le (by exact HB1.out.size), hb3⟩
end Go.Proofs.Ytffgoekdjcempab
