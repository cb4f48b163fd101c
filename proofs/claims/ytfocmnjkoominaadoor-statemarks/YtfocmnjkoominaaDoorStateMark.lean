/- The contract of the program's state.Mark. -/
import Derived.Test.YtfocmnjkoominaaDoorStateCheck
import Derived.Test.YtfocmnjkoominaaDoorMarkMath
import Derived.Test.YtfocmnjkoominaaDoorHexaParse
import Derived.Deep.Fields
import Derived.Handy
namespace Go.Proofs.YtfocmnjkoominaaDoor
open Go.ChangeShapes Go.WideShapes Go.ChangeAt Go.RowKit
open StateMath

/-- a mark as the four cells of its struct -/
def mkC (m : Mk) : Array Value := #[.int .i64 m.th, .int .i64 m.rv, .bool m.ht, .bool m.hr]
def markV (x : Mk × Int) : Value := .tuple #[.agg (mkC x.1), .int .i64 x.2]
theorem cell_at {w : World} {b i : Nat} {cs : Array Value} {t : TypeId} {u : Value} (h : w.heap[b]? = some (.cells cs t (0, 0))) (hu : cs[i]? = some u) : w.cell? ⟨b, i, none⟩ = some u := by
  simp [World.cell?, h, hu]
theorem frozen_at {w : World} {b i : Nat} {cs : Array Value} {t : TypeId} (h : w.heap[b]? = some (.cells cs t (0, 0))) : w.frozen? ⟨b, i, none⟩ = false := by
  simp [World.frozen?, h]
/-- what stands while the pairs are read: the result's block, still of zeros, and the mark that grows in the block B -/
structure Marks (w wr : World) (B : Nat) (m : Mk) : Prop where
  res : wr.heap[w.heap.size]? = some (.cells (mkC Mk.zero) 24 (0, 0))
  blk : wr.heap[B]? = some (.cells (mkC m) 24 (0, 0))
  lt : w.heap.size < B
  bel : Below w.heap.size w wr
theorem Marks.big {w wr : World} {B : Nat} {m : Mk} (h : Marks w wr B m) : B < wr.heap.size := (Array.getElem?_eq_some_iff.1 h.blk).1
theorem Marks.alloc {w wr : World} {B : Nat} {m : Mk} (h : Marks w wr B m) (o : Obj) : Marks w (wr.alloc o) B m := by
  have h1 := h.big
  have h2 := h.lt
  exact ⟨by rw [Below.heap_alloc _ _ _ (by omega)]; exact h.res, by rw [Below.heap_alloc _ _ _ h1]; exact h.blk, h2, h.bel.alloc (by omega) o⟩
theorem Marks.set {w wr : World} {B : Nat} {m u : Mk} (h : Marks w wr B m) (i : Nat) (v : Value) (hu : (mkC m).setIfInBounds i v = mkC u) : Marks w (wr.setCell ⟨B, i, none⟩ v) B u := by
  have h2 := h.lt
  refine ⟨by rw [Below.heap_setCell _ _ _ _ (by show w.heap.size ≠ B; omega)]; exact h.res, ?_, h2, h.bel.setCell (by show w.heap.size ≤ B; omega) v⟩
  have := heap_setCell_same wr B i _ _ v h.blk
  rw [this, hu]
theorem heap_new (w w1 : World) (o : Obj) (hb : Below (w.alloc o).heap.size (w.alloc o) w1) : w1.heap[w.heap.size]? = some o := by
  rw [hb.block w.heap.size (by simp)]
  exact (MapKept.heap_alloc w o).1
/-- the four cells of a mark in the heap -/
structure Four (w : World) (b : Nat) (m : Mk) : Prop where
  c0 : w.cell? ⟨b, 0, none⟩ = some (.int .i64 m.th)
  c1 : w.cell? ⟨b, 1, none⟩ = some (.int .i64 m.rv)
  c2 : w.cell? ⟨b, 2, none⟩ = some (.bool m.ht)
  c3 : w.cell? ⟨b, 3, none⟩ = some (.bool m.hr)
  f0 : w.frozen? ⟨b, 0, none⟩ = false
  f1 : w.frozen? ⟨b, 1, none⟩ = false
  f2 : w.frozen? ⟨b, 2, none⟩ = false
  f3 : w.frozen? ⟨b, 3, none⟩ = false
theorem four_of {w : World} {b : Nat} {m : Mk} {t : TypeId} (h : w.heap[b]? = some (.cells (mkC m) t (0, 0))) : Four w b m :=
  ⟨cell_at h rfl, cell_at h rfl, cell_at h rfl, cell_at h rfl, frozen_at h, frozen_at h, frozen_at h, frozen_at h⟩
theorem heap_four {w : World} {b : Nat} {m : Mk} {t : TypeId} (h : w.heap[b]? = some (.cells (mkC m) t (0, 0))) (u : Mk) :
    ((((w.setCell ⟨b, 0, none⟩ (.int .i64 u.th)).setCell ⟨b, 1, none⟩ (.int .i64 u.rv)).setCell ⟨b, 2, none⟩ (.bool u.ht)).setCell ⟨b, 3, none⟩ (.bool u.hr)).heap[b]? = some (.cells (mkC u) t (0, 0)) := by
  have h0 := heap_setCell_same w b 0 _ _ (.int .i64 u.th) h
  have h1 := heap_setCell_same _ b 1 _ _ (.int .i64 u.rv) h0
  have h2 := heap_setCell_same _ b 2 _ _ (.bool u.ht) h1
  have h3 := heap_setCell_same _ b 3 _ _ (.bool u.hr) h2
  rw [h3]
  rfl
theorem four_set {w0 w : World} {b : Nat} {m : Mk} {t : TypeId} (h : w.heap[b]? = some (.cells (mkC m) t (0, 0))) (u : Mk) (hb : Below b w0 w) :
    Four ((((w.setCell ⟨b, 0, none⟩ (.int .i64 u.th)).setCell ⟨b, 1, none⟩ (.int .i64 u.rv)).setCell ⟨b, 2, none⟩ (.bool u.ht)).setCell ⟨b, 3, none⟩ (.bool u.hr)) b u ∧
    Below b w0 ((((w.setCell ⟨b, 0, none⟩ (.int .i64 u.th)).setCell ⟨b, 1, none⟩ (.int .i64 u.rv)).setCell ⟨b, 2, none⟩ (.bool u.ht)).setCell ⟨b, 3, none⟩ (.bool u.hr)) :=
  ⟨four_of (heap_four h u), (((hb.setCell (Nat.le_refl _) _).setCell (Nat.le_refl _) _).setCell (Nat.le_refl _) _).setCell (Nat.le_refl _) _⟩

set_option maxRecDepth 100000 in
set_option maxHeartbeats 2000000 in
theorem mark_any (a : Option Addr) (len cap : Nat) (L : List Pr) (w : World) (h : Tab w a len cap 2 (L.map ssC)) (hok : ∀ p ∈ L, p.1.size ≤ maxLen ∧ p.2.size ≤ maxLen) :
    Calls Tryd.prog 4 #[.slice a len cap] w fun e w' => e = .returned (markV (markOf L)) ∧ Below w.heap.size w w' := by
  have hn := h.hmax
  have hle := h.hle
  have hl := h.hlen
  rw [List.length_map] at hl
  unfold maxLen at hn
  have HL := Lib.hid h.hlen
  have HT := Lib.hid h
  have HO := Lib.hid hok
  have hb0 : Below w.heap.size w (w.alloc (.cells (mkC Mk.zero) 24)) := (Below.refl _ _).alloc (Nat.le_refl _) _
  have HC := Lib.hid (check_any a len cap L (w.alloc (.cells (mkC Mk.zero) 24)) (h.below hb0) hok)
  clear h hok
  by_cases hc : check L = 0
  · rw [hc] at HC
    have HC0 := Lib.hid hc
    have HE : Hid (L.length ≤ len) := Nat.le_of_eq hl
    clear hc hl
    go_enter Tryd.func4, Tryd.ntmps4
    go_wp2_with fail
    refine HC.out.mono ?_
    rintro e w1 ⟨rfl, hb1⟩
    have M0 : Hid (Marks w (w1.alloc (.cells (mkC Mk.zero) 24)) w1.heap.size Mk.zero) := by
      have hr := heap_new _ _ _ hb1
      have h1 := below_on hb0 hb1
      have h2 : w.heap.size < w1.heap.size := (Array.getElem?_eq_some_iff.1 hr).1
      exact ⟨by rw [Below.heap_alloc _ _ _ h2]; exact hr, (MapKept.heap_alloc _ _).1, h2, h1.alloc (by omega) _⟩
    clear HC hb0 hb1
    go_wp2
    generalize hB : w1.heap.size = B at *
    clear hB
    go_loopg [17] len (fun g i wr => ∃ (k : Nat) (m : Mk), k + g = len ∧ i = .int .i64 k ∧ Hid (Marks w wr B m) ∧ Hid (Mk.zero.run (L.take k) = some m))
    case atStart => exact ⟨0, Mk.zero, by omega, rfl, M0, rfl⟩
    case round =>
      clear M0
      obtain ⟨k, m, hk0, rfl, HK, HR⟩ := hrel
      have HJ := Lib.hid hk0
      have hk : k ≤ len := by omega
      clear hk0
      have hsz := HK.out.bel.size
      have hbig := HK.out.big
      have hBl := HK.out.lt
      by_cases hlt : k < len
      · obtain ⟨⟨pk, pv⟩, hp⟩ := some_get HL.out hlt
        obtain ⟨b, off, ha, hbs, h0, h1⟩ := HT.out.two HK.out.bel (map_get hp)
        have HP := Lib.hid hp
        obtain ⟨ok1, ok2⟩ := HO.out _ (List.mem_of_getElem? hp)
        subst ha
        clear hp
        obtain ⟨c0, c1, c2, c3, f0, f1, f2, f3⟩ := four_of HK.out.blk
        have hne : w.heap.size ≠ B := by omega
        have hne2 : B ≠ wr.heap.size := by omega
        by_cases h116 : pk.data.toList = [116, 104]
        · have t1 : (pk.toList == [116, 104]) = true := by rw [Lib.toList_data, h116]; rfl
          cases hpt : HexaMath.parseTh pv.data.toList with
          | none =>
            have HN := Lib.hid (fun w => parseTh_no pv w hpt)
            have HF : Hid (markOf L = (Mk.zero, 3)) := markOf_none HC0.out (Mk.run_bad _ _ _ _ _ HP.out HR.out (by unfold Mk.step; rw [if_pos h116, hpt]; rfl))
            clear h116 hpt
            have HW : Hid (Marks w ((wr.setCell { block := B, off := 2 } (Value.bool true)).alloc (.cells #[.string pk, .string pv] 31)) B { m with ht := true }) := (HK.out.set 2 (.bool true) (u := { m with ht := true }) rfl).alloc _
            go_wp2_with fail
            refine (HN.out _).mono ?_
            rintro e w2 ⟨rfl, hw2⟩
            rw [hw2] at HW
            clear hw2 c0 c1 c2 c3 f0 f1 f2 f3
            obtain ⟨c0, c1, c2, c3, f0, f1, f2, f3⟩ := four_of HW.out.blk
            obtain ⟨e0, e1, e2, e3, g0, g1, g2, g3⟩ := four_of HW.out.res
            have HX := Lib.hid (HW.out.set 0 (.int .i64 0) (u := { m with ht := true, th := 0 }) rfl)
            have Z := Lib.hid (four_set HX.out.res Mk.zero HX.out.bel)
            unfold Mk.zero at e0 e1 e2 e3 Z
            go_wp2
            generalize (((((w2.setCell { block := B, off := 0 } (Value.int IntKind.i64 0)).setCell { block := w.heap.size, off := 0 } (Value.int IntKind.i64 0)).setCell { block := w.heap.size, off := 1 } (Value.int IntKind.i64 0)).setCell { block := w.heap.size, off := 2 } (Value.bool false)).setCell { block := w.heap.size, off := 3 } (Value.bool false)) = w3 at *
            obtain ⟨⟨d0, d1, d2, d3, _, _, _, _⟩, hb3⟩ := Z.out
            clear c0 c1 c2 c3 f0 f1 f2 f3 e0 e1 e2 e3 g0 g1 g2 g3 Z
            try simp only [Exit.inBlock, Exit.then]
            refine bodyPost_ret (by simp [results, Tryd.results4, go_sem, d0, d1, d2, d3, Result.andThen]; try rfl) rfl ?_
            exact ⟨by rw [HF.out]; rfl, hb3⟩
          | some n =>
            have HN := Lib.hid (fun w => parseTh_yes pv n w hpt)
            have HS : Hid (Mk.zero.run (L.take (k + 1)) = some { m with th := (n : Nat), ht := true }) := Mk.run_take _ _ _ _ _ _ HP.out HR.out (by unfold Mk.step; rw [if_pos h116, hpt]; rfl)
            clear h116 hpt
            have HW : Hid (Marks w ((wr.setCell { block := B, off := 2 } (Value.bool true)).alloc (.cells #[.string pk, .string pv] 31)) B { m with ht := true }) := (HK.out.set 2 (.bool true) (u := { m with ht := true }) rfl).alloc _
            go_wp2_with fail
            refine (HN.out _).mono ?_
            rintro e w2 ⟨rfl, hw2⟩
            rw [hw2] at HW
            clear hw2 c0 c1 c2 c3 f0 f1 f2 f3
            obtain ⟨c0, c1, c2, c3, f0, f1, f2, f3⟩ := four_of HW.out.blk
            go_wp2
            go_roundg (len - (k + 1))
            case measure => have := HJ.out; omega
            case rel => exact ⟨k + 1, _, by omega, by go_num, HW.out.set 0 (.int .i64 n) rfl, HS⟩
        · have t1 : (pk.toList == [116, 104]) = false := by rw [beq_eq_false_iff_ne, Lib.toList_data]; exact h116
          by_cases h114 : pk.data.toList = [114, 118]
          · have t2 : (pk.toList == [114, 118]) = true := by rw [Lib.toList_data, h114]; rfl
            cases hpt : HexaMath.parseRv pv.data.toList with
            | none =>
              have HN := Lib.hid (fun w => parseRv_no pv w hpt)
              have HF : Hid (markOf L = (Mk.zero, 3)) := markOf_none HC0.out (Mk.run_bad _ _ _ _ _ HP.out HR.out (by unfold Mk.step; rw [if_neg h116, if_pos h114, hpt]; rfl))
              clear h116 h114 hpt
              have HW : Hid (Marks w ((wr.setCell { block := B, off := 3 } (Value.bool true)).alloc (.cells #[.string pk, .string pv] 31)) B { m with hr := true }) := (HK.out.set 3 (.bool true) (u := { m with hr := true }) rfl).alloc _
              go_wp2_with fail
              refine (HN.out _).mono ?_
              rintro e w2 ⟨rfl, hw2⟩
              rw [hw2] at HW
              clear hw2 c0 c1 c2 c3 f0 f1 f2 f3
              obtain ⟨c0, c1, c2, c3, f0, f1, f2, f3⟩ := four_of HW.out.blk
              obtain ⟨e0, e1, e2, e3, g0, g1, g2, g3⟩ := four_of HW.out.res
              have HX := Lib.hid (HW.out.set 1 (.int .i64 0) (u := { m with hr := true, rv := 0 }) rfl)
              have Z := Lib.hid (four_set HX.out.res Mk.zero HX.out.bel)
              unfold Mk.zero at e0 e1 e2 e3 Z
              go_wp2
              generalize (((((w2.setCell { block := B, off := 1 } (Value.int IntKind.i64 0)).setCell { block := w.heap.size, off := 0 } (Value.int IntKind.i64 0)).setCell { block := w.heap.size, off := 1 } (Value.int IntKind.i64 0)).setCell { block := w.heap.size, off := 2 } (Value.bool false)).setCell { block := w.heap.size, off := 3 } (Value.bool false)) = w3 at *
              obtain ⟨⟨d0, d1, d2, d3, _, _, _, _⟩, hb3⟩ := Z.out
              clear c0 c1 c2 c3 f0 f1 f2 f3 e0 e1 e2 e3 g0 g1 g2 g3 Z
              try simp only [Exit.inBlock, Exit.then]
              refine bodyPost_ret (by simp [results, Tryd.results4, go_sem, d0, d1, d2, d3, Result.andThen]; try rfl) rfl ?_
              exact ⟨by rw [HF.out]; rfl, hb3⟩
            | some n =>
              have HN := Lib.hid (fun w => parseRv_yes pv n w hpt)
              have HS : Hid (Mk.zero.run (L.take (k + 1)) = some { m with rv := (n : Nat), hr := true }) := Mk.run_take _ _ _ _ _ _ HP.out HR.out (by unfold Mk.step; rw [if_neg h116, if_pos h114, hpt]; rfl)
              clear h116 h114 hpt
              have HW : Hid (Marks w ((wr.setCell { block := B, off := 3 } (Value.bool true)).alloc (.cells #[.string pk, .string pv] 31)) B { m with hr := true }) := (HK.out.set 3 (.bool true) (u := { m with hr := true }) rfl).alloc _
              go_wp2_with fail
              refine (HN.out _).mono ?_
              rintro e w2 ⟨rfl, hw2⟩
              rw [hw2] at HW
              clear hw2 c0 c1 c2 c3 f0 f1 f2 f3
              obtain ⟨c0, c1, c2, c3, f0, f1, f2, f3⟩ := four_of HW.out.blk
              go_wp2
              go_roundg (len - (k + 1))
              case measure => have := HJ.out; omega
              case rel => exact ⟨k + 1, _, by omega, by go_num, HW.out.set 1 (.int .i64 n) rfl, HS⟩
          · have t2 : (pk.toList == [114, 118]) = false := by rw [beq_eq_false_iff_ne, Lib.toList_data]; exact h114
            have HS : Hid (Mk.zero.run (L.take (k + 1)) = some m) := Mk.run_take _ _ _ _ _ _ HP.out HR.out (by unfold Mk.step; rw [if_neg h116, if_neg h114])
            clear h116 h114 c0 c1 c2 c3 f0 f1 f2 f3
            go_wp2
            go_roundg (len - (k + 1))
            case measure => have := HJ.out; omega
            case rel => exact ⟨k + 1, _, by omega, by go_num, HK.out.alloc _, HS⟩
      · have HF : Hid (markOf L = (m, 0)) := by
          show _ = _
          refine markOf_some HC0.out ?_
          rw [← HR.out, List.take_of_length_le (by have := HE.out; omega)]
        obtain ⟨c0, c1, c2, c3, f0, f1, f2, f3⟩ := four_of HK.out.blk
        obtain ⟨e0, e1, e2, e3, g0, g1, g2, g3⟩ := four_of HK.out.res
        unfold Mk.zero at e0 e1 e2 e3
        have hne : w.heap.size ≠ B := by omega
        have Z := Lib.hid (four_set HK.out.res m HK.out.bel)
        go_wp2
        generalize ((((wr.setCell { block := w.heap.size, off := 0 } (Value.int IntKind.i64 m.th)).setCell { block := w.heap.size, off := 1 } (Value.int IntKind.i64 m.rv)).setCell { block := w.heap.size, off := 2 } (Value.bool m.ht)).setCell { block := w.heap.size, off := 3 } (Value.bool m.hr)) = w3 at *
        obtain ⟨⟨d0, d1, d2, d3, _, _, _, _⟩, hb3⟩ := Z.out
        clear c0 c1 c2 c3 f0 f1 f2 f3 e0 e1 e2 e3 g0 g1 g2 g3 Z
        try simp only [Exit.inBlock, Exit.then]
        refine bodyPost_ret (by simp [results, Tryd.results4, go_sem, d0, d1, d2, d3, Result.andThen]; try rfl) rfl ?_
        exact ⟨by rw [HF.out]; rfl, hb3⟩
  · have HM := Lib.hid (markOf_bad hc)
    have t : (check L != 0) = true := by simpa using hc
    generalize check L = c at *
    go_enter Tryd.func4, Tryd.ntmps4
    go_wp2_with fail
    refine HC.out.mono ?_
    rintro e w1 ⟨rfl, hb1⟩
    obtain ⟨c0, c1, c2, c3, f0, f1, f2, f3⟩ := four_of (m := Mk.zero) (heap_new _ _ _ hb1)
    have hb2 := Lib.hid (four_set (heap_new _ _ _ hb1) Mk.zero (below_on hb0 hb1))
    clear hb0 hb1
    unfold Mk.zero at c0 c1 c2 c3 hb2
    go_wp2
    generalize ((((w1.setCell { block := w.heap.size, off := 0 } (Value.int IntKind.i64 0)).setCell { block := w.heap.size, off := 1 } (Value.int IntKind.i64 0)).setCell { block := w.heap.size, off := 2 } (Value.bool false)).setCell { block := w.heap.size, off := 3 } (Value.bool false)) = w2 at *
    obtain ⟨⟨d0, d1, d2, d3, _, _, _, _⟩, hb3⟩ := hb2.out
    clear c0 c1 c2 c3 f0 f1 f2 f3 hb2
    try simp only [Exit.inBlock, Exit.then]
    refine bodyPost_ret (by simp [results, Tryd.results4, go_sem, d0, d1, d2, d3, Result.andThen]; try rfl) rfl ?_
    exact ⟨by rw [HM.out]; rfl, hb3⟩
end Go.Proofs.YtfocmnjkoominaaDoor
