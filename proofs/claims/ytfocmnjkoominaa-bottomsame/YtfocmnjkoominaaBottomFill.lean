/- The contract of the laws' own filled (culkeep.filled). -/
import Derived.Test.YtfocmnjkoominaaBottomPut
import Derived.Test.YtfocmnjkoominaaDraw
namespace Go.Proofs.Ytfocmnjkoominaa
open Go.ChangeShapes Go.WideShapes Go.ChangeAt Go.RowKit
open Least

namespace Least
/-- the draws that numbers make -/
def drawsL (l : List Int) : List Int := l.map (fun x => withI x 72057594037927936)
theorem draws_take {l : List Int} {k : Nat} {x : Int} (h : l[k]? = some x) : drawsL (l.take (k + 1)) = drawsL (l.take k) ++ [withI x 72057594037927936] := by
  obtain ⟨hk, rfl⟩ := List.getElem?_eq_some_iff.1 h
  unfold drawsL
  rw [List.take_succ_eq_append_getElem hk, List.map_append]
  rfl
theorem draws_bd {l : List Int} : ∀ y ∈ drawsL l, 0 ≤ y ∧ y < 72057594037927936 := by
  intro y hy
  obtain ⟨x, _, rfl⟩ := List.mem_map.1 hy
  exact withI_bd _ _ (by omega)
theorem draws_append (a b : List Int) : drawsL (a ++ b) = drawsL a ++ drawsL b := List.map_append
theorem T_okB {k : Nat} {l : List Int} (h : ∀ y ∈ l, 0 ≤ y ∧ y < 72057594037927936) : okB (T k l) := ⟨T_up k l, fun y hy => h y (T_mem hy)⟩
theorem T_good {k : Nat} {l : List Int} (h1 : 1 ≤ k) (h2 : k ≤ 40) (h : ∀ y ∈ l, 0 ≤ y ∧ y < 72057594037927936) : bottomE k (T k l) = 0 := bottomE_ok h1 h2 (T_le k l) (T_okB h)
/-- a sketch in a variable's block -/
structure BV (w wr : World) (B : Nat) (K : Int) (v : Value) (L : List Int) : Prop where
  blk : wr.heap[B]? = some (.cells #[.int .i64 K, v] 24 (0, 0))
  own : Own wr (B + 1) 3 1 v (L.map iC)
  bel : Below w.heap.size w wr
  lo : w.heap.size ≤ B
theorem BV.big {w wr : World} {B : Nat} {K : Int} {v : Value} {L : List Int} (h : BV w wr B K v L) : B < wr.heap.size := (Array.getElem?_eq_some_iff.1 h.blk).1
theorem BV.below {w wr w' : World} {B : Nat} {K : Int} {v : Value} {L : List Int} (h : BV w wr B K v L) (hb : Below wr.heap.size wr w') : BV w w' B K v L :=
  ⟨kept_blk hb h.blk, h.own.below hb, below_on h.bel hb, h.lo⟩
theorem BV.set {w wr : World} {B base : Nat} {K K' : Int} {v v' : Value} {L L' : List Int} (h : BV w wr B K v L) (hO : Own wr base 3 1 v' (L'.map iC)) (hB : B < base) :
    BV w ((wr.setCell ⟨B, 0, none⟩ (.int .i64 K')).setCell ⟨B, 1, none⟩ v') B K' v' L' :=
  ⟨two_set h.blk, ((hO.setCell (a := ⟨B, 0, none⟩) hB _).setCell (a := ⟨B, 1, none⟩) hB _).base_le hB,
    (h.bel.setCell (p := ⟨B, 0, none⟩) h.lo _).setCell (p := ⟨B, 1, none⟩) h.lo _, h.lo⟩
theorem cell_old {w : World} {o : Obj} {a : Addr} (h : a.block < w.heap.size) : (w.alloc o).cell? a = w.cell? a := World.cell?_of_block (Below.heap_alloc _ _ _ h)
theorem cell_else {w : World} {a b : Addr} {v : Value} (h : a.block ≠ b.block) : (w.setCell b v).cell? a = w.cell? a := World.cell?_of_block (Below.heap_setCell _ _ _ _ h)
end Least

set_option maxRecDepth 100000 in
set_option maxHeartbeats 2000000 in
theorem filled_any (k : Nat) (a : Option Addr) (len cap : Nat) (l : List Int) (w : World) (h : Tab w a len cap 1 (l.map iC)) (ho : ∀ z ∈ l, wfI z) (k1 : 1 ≤ k) (k2 : k ≤ 40) :
    Calls Try.prog 27 #[.int .i64 k, .slice a len cap] w fun e w' => ∃ v, e = .returned (.tuple #[.agg #[.int .i64 k, v], .bool true]) ∧ Own w' w.heap.size 3 1 v ((T k (drawsL (l.take 200))).map iC) ∧ Below w.heap.size w w' := by
  have hl := h.hlen
  rw [List.length_map] at hl
  have hm := h.hmax
  have hle := h.hle
  unfold maxLen at hm
  obtain ⟨n, hn⟩ : ∃ n, min len 200 = n := ⟨_, rfl⟩
  have hl0 : l.length = len := hl
  have HTK : Hid (l.take 200 = l.take n) := Lib.hid (by
    by_cases h9 : len ≤ 200
    · rw [List.take_of_length_le (by omega), List.take_of_length_le (by omega)]
    · rw [show n = 200 from by omega])
  rw [HTK.out]
  have hn1 : n ≤ len := by omega
  have rU := run_upto 22 3 1 Try.underlying22 elem_intB size_intB a len cap n (by omega)
  have HT := Lib.hid h
  have HO := Lib.hid ho
  have HL := Lib.hid hl0
  have HTT : Hid ((min (len : Int) 200).toNat = n ∧ min (len : Int) 200 = n) := Lib.hid (by omega)
  have hbx : Below w.heap.size w ((w.alloc (.cells #[.int .i64 0, .slice none 0 0] 24)).alloc (.cells #[.int .i64 k, .slice none 0 0] 24)) := ((Below.refl _ _).alloc (Nat.le_refl _) _).alloc (by simp) _
  have hV0 : BV w ((w.alloc (.cells #[.int .i64 0, .slice none 0 0] 24)).alloc (.cells #[.int .i64 k, .slice none 0 0] 24)) (w.heap.size + 1) k (.slice none 0 0) (T k (drawsL (l.take 0))) := by
    refine ⟨?_, ?_, hbx, Nat.le_succ _⟩
    · have := (MapKept.heap_alloc (w.alloc (.cells #[.int .i64 0, .slice none 0 0] 24)) (.cells #[.int .i64 k, .slice none 0 0] 24)).1
      simpa using this
    · rw [show T k (drawsL (l.take 0)) = [] from T_nil k]; exact Own.nil _ _ _ _
  have HV0 := Lib.hid hV0
  have hR0 : ((w.alloc (.cells #[.int .i64 0, .slice none 0 0] 24)).alloc (.cells #[.int .i64 k, .slice none 0 0] 24)).heap[w.heap.size]? = some (.cells #[.int .i64 0, .slice none 0 0] 24 (0, 0)) := by
    rw [Below.heap_alloc _ _ _ (by simp)]
    exact (MapKept.heap_alloc w _).1
  have HR0 := Lib.hid hR0
  clear h ho hl hl0 hV0 hR0 hbx
  go_enter Try.func27, Try.ntmps27
  go_upto_region 2 with fail
  go_cut [17, 18, 19] (fun s t i wx => s = .slice a n cap ∧ t = .int .i64 n ∧ i = .int .i64 0 ∧ wx = ((w.alloc (.cells #[.int .i64 0, .slice none 0 0] 24)).alloc (.cells #[.int .i64 k, .slice none 0 0] 24)))
  case first =>
    by_cases h9 : len ≤ 200
    · obtain rfl : n = len := by omega
      clear hn
      go_wp2_with fail
      go_meet
      case rel => exact ⟨congrArg (fun t => Value.slice a t cap) (by omega), congrArg (Value.int IntKind.i64) (by omega), rfl, rfl⟩
    · obtain rfl : n = 200 := by omega
      have h9' : 200 < len := by omega
      clear hn h9
      go_wp2_with fail
      go_meet
      case rel => exact ⟨congrArg (fun t => Value.slice a t cap) (by omega), congrArg (Value.int IntKind.i64) (by omega), rfl, rfl⟩
  case rest =>
  obtain ⟨rfl, rfl, rfl, hwc⟩ := hcut
  have HWC := Lib.hid hwc
  rw [← hwc] at HV0 HR0
  obtain ⟨wc', hwc'⟩ : ∃ w', w' = wc := ⟨_, rfl⟩
  clear hwc rU hn HTT hwc' wc' HWC
  go_wp2_with fail
  go_loopg [19] n (fun g i wr => ∃ (t : Nat) (v : Value), t + g = n ∧ i = .int .i64 t ∧ Hid (BV w wr (w.heap.size + 1) k v (T k (drawsL (l.take t)))) ∧ Hid (wr.heap[w.heap.size]? = some (.cells #[.int .i64 0, .slice none 0 0] 24 (0, 0))))
  case atStart => exact ⟨0, _, by omega, rfl, HV0, HR0⟩
  case round =>
    clear HV0 HR0
    obtain ⟨t, v, ht0, rfl, HV, HR⟩ := hrel
    have HJ := Lib.hid ht0
    have ht : t ≤ n := by omega
    clear ht0
    by_cases hlt : t < n
    · obtain ⟨x, hx⟩ : ∃ x, l[t]? = some x := ⟨_, List.getElem?_eq_getElem (by rw [HL.out]; omega)⟩
      obtain ⟨b1, o1, ha, hbs, c9⟩ := HT.out.one HV.out.bel (map_get hx)
      have hwx := wf_i64 (HO.out x (List.mem_of_getElem? hx))
      have HD := Lib.hid (fun w => draw_int x w hwx)
      have hyb := withI_bd x 72057594037927936 (by omega)
      have HN : Hid (T k (drawsL (l.take (t + 1))) = T k (T k (drawsL (l.take t)) ++ [withI x 72057594037927936])) := Lib.hid (by rw [draws_take hx, T_absorb])
      have HGD : Hid (bottomE k (T k (drawsL (l.take t))) = 0) := Lib.hid (T_good k1 k2 draws_bd)
      generalize T k (drawsL (l.take t)) = L at *
      obtain ⟨av, cv, rfl, hTv⟩ := HV.out.own.tab
      rw [List.length_map] at hTv HV
      have HP := Lib.hid (fun (W : World) (hT : Tab W av L.length cv 1 (L.map iC)) => bput_ok k av L.length cv L (withI x 72057594037927936) W hT HGD.out hyb.1 hyb.2)
      have HTV := Lib.hid hTv
      obtain ⟨⟨c0, c1⟩, f0, f1⟩ := two_cells HV.out.blk
      have HBL := Lib.hid HV.out.blk
      have hbig := HV.out.big
      have hbo : Below wr.heap.size wr (wr.alloc (.cells #[.int .i64 0, .slice none 0 0] 24)) := (Below.refl _ _).alloc (Nat.le_refl _) _
      have HTV2 := Lib.hid (hTv.below hbo)
      have HBL2 := Lib.hid (kept_blk hbo HV.out.blk)
      have HX : Hid ((wr.alloc (.cells #[.int .i64 0, .slice none 0 0] 24)).heap[wr.heap.size]? = some (.cells #[.int .i64 0, .slice none 0 0] 24 (0, 0))) := Lib.hid (MapKept.heap_alloc wr _).1
      have hne : w.heap.size + 1 ≠ wr.heap.size := by omega
      clear hbo
      subst ha
      clear hx hwx hTv
      generalize withI x 72057594037927936 = y at *
      obtain ⟨y0, y1⟩ := hyb
      unfold bottomV at HP
      go_upto_region 5 with fail
      go_cut [9, 10] (fun p e wx => ∃ (X : Nat) (v2 : Value), p = .pointer (some ⟨X, 0, none⟩) ∧ e = .int .i64 0 ∧ Hid (wx.heap[X]? = some (.cells #[.int .i64 k, v2] 24 (0, 0))) ∧ Hid (Own wx (w.heap.size + 1 + 1) 3 1 v2 ((T k (L ++ [y])).map iC)) ∧ Hid (BV w wx (w.heap.size + 1) k (.slice av L.length cv) L) ∧ Hid (wx.heap[w.heap.size]? = some (.cells #[.int .i64 0, .slice none 0 0] 24 (0, 0))))
      case first =>
        go_wp2_with fail
        go_region_held3 (fun W => W.cell? ⟨w.heap.size + 1, 0, none⟩ = some (.int .i64 k) ∧ W.cell? ⟨w.heap.size + 1, 1, none⟩ = some (.slice av L.length cv)) (first | exact ⟨c0, c1⟩ | exact ⟨d0, d1⟩ | exact ⟨(cell_old hbig).trans c0, (cell_old hbig).trans c1⟩ | exact ⟨(cell_old hbig2).trans d0, (cell_old hbig2).trans d1⟩ | exact ⟨(cell_else hne).trans ((cell_else hne).trans d0), (cell_else hne).trans ((cell_else hne).trans d1)⟩ | go_keep) (first | (go_at_call 51; refine (HD.out _).mono ?_; rintro e w5 ⟨rfl, rfl⟩) | (go_at_call 8; refine Calls.mono (HP.out _ ?_) ?_; (first | exact HTV.out | exact HTV2.out | exact HTV.out.below ((Below.refl _ _).drew) | exact HTV2.out.below ((Below.refl _ _).drew)); rintro e w2 ⟨v2, rfl, hO2, hb2⟩; obtain ⟨a2, cap2, rfl, hT2⟩ := hO2.tab; obtain ⟨⟨d0, d1⟩, q0, q1⟩ := two_cells (show w2.heap[w.heap.size + 1]? = some (.cells #[.int .i64 k, .slice av L.length cv] 24 (0, 0)) by (first | exact kept_blk hb2 HBL.out | exact kept_blk hb2 HBL2.out)); have hbig2 : w.heap.size + 1 < w2.heap.size := (by have h5 := hb2.size; simp at h5; omega); have hbw : Below wr.heap.size wr w2 := (by first | exact drew_below hb2 | exact (((Below.refl _ _).alloc (Nat.le_refl _) _).trans ((drew_below hb2).mono (by simp)))); (first | (obtain ⟨⟨p0, p1⟩, p2, p3⟩ := two_cells (kept_blk hb2 HX.out)) | skip)))
        all_goals
          go_wp2_with fail
          go_meet
          case rel =>
            rw [List.length_map] at hO2
            first
            | (refine ⟨w2.heap.size, _, rfl, rfl, Lib.hid (MapKept.heap_alloc w2 _).1, Lib.hid ((hO2.base_le (by simp; omega)).alloc _), Lib.hid (HV.out.below (hbw.alloc hbw.size _)), Lib.hid (kept_blk (hbw.alloc hbw.size _) HR.out)⟩)
            | (refine ⟨wr.heap.size, _, rfl, rfl, Lib.hid (two_set (kept_blk hb2 HX.out)), Lib.hid (((hO2.setCell (a := ⟨wr.heap.size, 0, none⟩) (by simp) _).setCell (a := ⟨wr.heap.size, 1, none⟩) (by simp) _).base_le (by simp; omega)), Lib.hid (HV.out.below ((hbw.setCell (p := ⟨wr.heap.size, 0, none⟩) (Nat.le_refl _) _).setCell (p := ⟨wr.heap.size, 1, none⟩) (Nat.le_refl _) _)), Lib.hid (kept_blk ((hbw.setCell (p := ⟨wr.heap.size, 0, none⟩) (Nat.le_refl _) _).setCell (p := ⟨wr.heap.size, 1, none⟩) (Nat.le_refl _) _) HR.out)⟩)
      case rest =>
      obtain ⟨X, v2, rfl, rfl, HXC, HO2, HV2, HR2⟩ := hcut
      obtain ⟨a2, cap2, rfl, _⟩ := HO2.out.tab
      obtain ⟨⟨m0, m1⟩, m2, m3⟩ := two_cells HXC.out
      obtain ⟨⟨n0, n1⟩, n2, n3⟩ := two_cells HV2.out.blk
      have hVN := HV2.out.set (K' := k) HO2.out (Nat.lt_succ_self _)
      have hRN : ((wc.setCell ⟨w.heap.size + 1, 0, none⟩ (.int .i64 k)).setCell ⟨w.heap.size + 1, 1, none⟩ (.slice a2 ((T k (L ++ [y])).map iC).length cap2)).heap[w.heap.size]? = some (.cells #[.int .i64 0, .slice none 0 0] 24 (0, 0)) := by
        rw [Below.heap_setCell _ _ _ _ (show w.heap.size ≠ w.heap.size + 1 by omega), Below.heap_setCell _ _ _ _ (show w.heap.size ≠ w.heap.size + 1 by omega)]
        exact HR2.out
      rw [List.length_map] at hVN hRN m1
      have HVN := Lib.hid hVN
      have HRN := Lib.hid hRN
      clear hVN hRN HXC HO2 HV2 HR2 HV HR c0 c1 f0 f1 c9 HX HTV HTV2 HBL HBL2 HP HD
      go_wp2_with fail
      go_roundg (n - (t + 1))
      case measure => have := HJ.out; omega
      case rel => exact ⟨t + 1, _, by omega, by go_num, by rw [HN.out]; exact HVN, HRN⟩
    · obtain rfl : t = n := by omega
      obtain ⟨av, cv, rfl, _⟩ := HV.out.own.tab
      obtain ⟨⟨n0, n1⟩, n2, n3⟩ := two_cells HV.out.blk
      obtain ⟨⟨m0, m1⟩, m2, m3⟩ := two_cells HR.out
      have Z := two_cells (two_set (K' := k) (v' := .slice av (T k (drawsL (l.take t))).length cv) HR.out)
      have hOZ := ((HV.out.own.setCell (a := ⟨w.heap.size, 0, none⟩) (by show w.heap.size < w.heap.size + 1 + 1; omega) (.int .i64 k)).setCell (a := ⟨w.heap.size, 1, none⟩) (by show w.heap.size < w.heap.size + 1 + 1; omega) (.slice av (T k (drawsL (l.take t))).length cv)).base_le (B := w.heap.size) (by omega)
      have hBZ := (HV.out.bel.setCell (p := ⟨w.heap.size, 0, none⟩) (Nat.le_refl _) (.int .i64 k)).setCell (p := ⟨w.heap.size, 1, none⟩) (Nat.le_refl _) (.slice av (T k (drawsL (l.take t))).length cv)
      rw [List.length_map] at n1 hOZ
      have HZ := Lib.hid Z
      have HOZ := Lib.hid hOZ
      have HBZ := Lib.hid hBZ
      clear Z hOZ hBZ HV HR
      go_wp2
      generalize ((wr.setCell { block := w.heap.size, off := 0 } (Value.int IntKind.i64 k)).setCell { block := w.heap.size, off := 1 } (Value.slice av (T k (drawsL (l.take t))).length cv)) = w3 at *
      clear m0 m1 m2 m3 n0 n1 n2 n3
      obtain ⟨⟨z0, z1⟩, _, _⟩ := HZ.out
      try simp only [Exit.inBlock, Exit.then]
      refine bodyPost_ret (by simp [results, Try.results27, go_sem, z0, z1, Result.andThen]; try rfl) rfl ?_
      exact ⟨_, rfl, HOZ.out, HBZ.out⟩
end Go.Proofs.Ytfocmnjkoominaa
