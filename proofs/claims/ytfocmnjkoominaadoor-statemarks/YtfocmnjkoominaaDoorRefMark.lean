/- The contract of the document's own reading of marks (culref.Mark). -/
import Derived.Test.YtfocmnjkoominaaDoorStateMark
import Derived.Test.YtfocmnjkoominaaDoorRefHexaTh
namespace Go.Proofs.YtfocmnjkoominaaDoor
open Go.ChangeShapes Go.WideShapes Go.ChangeAt Go.RowKit
open StateMath

theorem Marks.below {w wr w' : World} {B : Nat} {m : Mk} (h : Marks w wr B m) (hb : Below wr.heap.size wr w') : Marks w w' B m := by
  have h1 := h.big
  have h2 := h.lt
  exact ⟨(hb.block _ (by omega)).trans h.res, (hb.block _ h1).trans h.blk, h2, below_on h.bel hb⟩

set_option maxRecDepth 100000 in
set_option maxHeartbeats 2000000 in
theorem refMark_any (a : Option Addr) (len cap : Nat) (L : List Pr) (w : World) (h : Tab w a len cap 2 (L.map ssC)) (hok : ∀ p ∈ L, p.1.size ≤ maxLen ∧ p.2.size ≤ maxLen) (hc : check L = 0) :
    Calls Tryd.prog 7 #[.slice a len cap] w fun e w' => e = .returned (markV (markOf L)) ∧ Below w.heap.size w w' := by
  have hn := h.hmax
  have hle := h.hle
  have hl := h.hlen
  rw [List.length_map] at hl
  unfold maxLen at hn
  have HL := Lib.hid h.hlen
  have HT := Lib.hid h
  have HO := Lib.hid hok
  have HC0 := Lib.hid hc
  have HE : Hid (L.length ≤ len) := Nat.le_of_eq hl
  have M0 : Hid (Marks w ((w.alloc (.cells (mkC Mk.zero) 24)).alloc (.cells (mkC Mk.zero) 24)) (w.heap.size + 1) Mk.zero) := by
    refine ⟨?_, ?_, Nat.lt_succ_self _, ((Below.refl _ _).alloc (Nat.le_refl _) _).alloc (by simp) _⟩
    · rw [Below.heap_alloc _ _ _ (by simp)]; exact (MapKept.heap_alloc w _).1
    · have := (MapKept.heap_alloc (w.alloc (.cells (mkC Mk.zero) 24)) (.cells (mkC Mk.zero) 24)).1
      simpa using this
  clear h hok hc hl
  go_enter Tryd.func7, Tryd.ntmps7
  go_wp2
  generalize hB : w.heap.size + 1 = B at *
  go_loopg [9] len (fun g i wr => ∃ (k : Nat) (m : Mk), k + g = len ∧ i = .int .i64 k ∧ 0 ≤ m.th ∧ 0 ≤ m.rv ∧ Hid (Marks w wr B m) ∧ Hid (Mk.zero.run (L.take k) = some m))
  case atStart => exact ⟨0, Mk.zero, by omega, rfl, by decide, by decide, M0, rfl⟩
  case round =>
    clear M0
    obtain ⟨k, m, hk0, rfl, hth, hrv, HK, HR⟩ := hrel
    have HJ := Lib.hid hk0
    have hk : k ≤ len := by omega
    clear hk0
    have hsz := HK.out.bel.size
    have hbig := HK.out.big
    have hBl := HK.out.lt
    by_cases hlt : k < len
    · obtain ⟨⟨pk, pv⟩, hp⟩ := some_get HL.out hlt
      obtain ⟨b, off, ha, hbs, h0, h1⟩ := HT.out.two HK.out.bel (map_get hp)
      have HP := Lib.hid hp
      obtain ⟨ok1, ok2⟩ := HO.out _ (List.mem_of_getElem? hp)
      have hne : w.heap.size ≠ B := by omega
      have hne2 : B ≠ wr.heap.size := by omega
      have hX := (MapKept.heap_alloc wr (.cells #[.string pk, .string pv] 31)).1
      have p0 := cell_at (i := 0) hX rfl
      have p1 := cell_at (i := 1) hX rfl
      have HX := Lib.hid hX
      have HKA := Lib.hid (HK.out.alloc (.cells #[.string pk, .string pv] 31))
      subst ha
      clear hp hX
      by_cases h116 : pk.data.toList = [116, 104]
      · have t1 : (pk.toList == [116, 104]) = true := by rw [Lib.toList_data, h116]; rfl
        have t2 : (pk.toList == [114, 118]) = false := by rw [beq_eq_false_iff_ne, Lib.toList_data, h116]; decide
        have HN := Lib.hid (refParseTh_any pv (wr.alloc (.cells #[.string pk, .string pv] 31)) ok2)
        cases hpt : HexaMath.parseTh pv.data.toList with
        | none =>
          rw [hpt] at HN
          have HF : Hid (markOf L = (Mk.zero, 3)) := markOf_none HC0.out (Mk.run_bad _ _ _ _ _ HP.out HR.out (by unfold Mk.step; rw [if_pos h116, hpt]; rfl))
          clear h116 hpt
          rw [show orNone (none : Option Nat) = -1 from rfl] at HN
          obtain ⟨c0, c1, c2, c3, f0, f1, f2, f3⟩ := four_of HKA.out.blk
          go_wp2_with fail
          refine HN.out.mono ?_
          rintro e w2 ⟨rfl, hb2⟩
          have HW := Lib.hid (HKA.out.below hb2)
          have hX2 : w2.heap[wr.heap.size]? = some (.cells #[.string pk, .string pv] 31 (0, 0)) := (hb2.block _ (by simp)).trans HX.out
          clear p0 p1 c0 c1 c2 c3 f0 f1 f2 f3 hb2 HN HKA HX HK
          have p0 := cell_at (i := 0) hX2 rfl
          have p1 := cell_at (i := 1) hX2 rfl
          obtain ⟨c0, c1, c2, c3, f0, f1, f2, f3⟩ := four_of HW.out.blk
          obtain ⟨e0, e1, e2, e3, g0, g1, g2, g3⟩ := four_of HW.out.res
          have HY := Lib.hid ((HW.out.set 0 (.int .i64 (-1)) (u := { m with th := -1 }) rfl).set 2 (.bool true) (u := { m with th := -1, ht := true }) rfl)
          have Z := Lib.hid (four_set HY.out.res Mk.zero HY.out.bel)
          unfold Mk.zero at e0 e1 e2 e3 Z
          go_wp2
          generalize ((((((w2.setCell { block := B, off := 0 } (Value.int IntKind.i64 (-1))).setCell { block := B, off := 2 } (Value.bool true)).setCell { block := w.heap.size, off := 0 } (Value.int IntKind.i64 0)).setCell { block := w.heap.size, off := 1 } (Value.int IntKind.i64 0)).setCell { block := w.heap.size, off := 2 } (Value.bool false)).setCell { block := w.heap.size, off := 3 } (Value.bool false)) = w3 at *
          obtain ⟨⟨d0, d1, d2, d3, _, _, _, _⟩, hb3⟩ := Z.out
          clear c0 c1 c2 c3 f0 f1 f2 f3 e0 e1 e2 e3 g0 g1 g2 g3 Z
          try simp only [Exit.inBlock, Exit.then]
          refine bodyPost_ret (by simp [results, Tryd.results7, go_sem, d0, d1, d2, d3, Result.andThen]; try rfl) rfl ?_
          exact ⟨by rw [HF.out]; rfl, hb3⟩
        | some n =>
          rw [hpt] at HN
          have HS : Hid (Mk.zero.run (L.take (k + 1)) = some { m with th := (n : Nat), ht := true }) := Mk.run_take _ _ _ _ _ _ HP.out HR.out (by unfold Mk.step; rw [if_pos h116, hpt]; rfl)
          clear h116 hpt
          rw [show orNone (some n) = (n : Int) from rfl] at HN
          obtain ⟨c0, c1, c2, c3, f0, f1, f2, f3⟩ := four_of HKA.out.blk
          go_wp2_with fail
          refine HN.out.mono ?_
          rintro e w2 ⟨rfl, hb2⟩
          have HW := Lib.hid (HKA.out.below hb2)
          have hX2 : w2.heap[wr.heap.size]? = some (.cells #[.string pk, .string pv] 31 (0, 0)) := (hb2.block _ (by simp)).trans HX.out
          clear p0 p1 c0 c1 c2 c3 f0 f1 f2 f3 hb2 HN HKA HX HK
          have p0 := cell_at (i := 0) hX2 rfl
          have p1 := cell_at (i := 1) hX2 rfl
          obtain ⟨c0, c1, c2, c3, f0, f1, f2, f3⟩ := four_of HW.out.blk
          have HY := Lib.hid ((HW.out.set 0 (.int .i64 n) (u := { m with th := (n : Nat) }) rfl).set 2 (.bool true) (u := { m with th := (n : Nat), ht := true }) rfl)
          go_wp2
          go_roundg (len - (k + 1))
          case measure => have := HJ.out; omega
          case rel => exact ⟨k + 1, _, by omega, by go_num, by show 0 ≤ (n : Int); omega, by exact hrv, HY, HS⟩
      · have t1 : (pk.toList == [116, 104]) = false := by rw [beq_eq_false_iff_ne, Lib.toList_data]; exact h116
        by_cases h114 : pk.data.toList = [114, 118]
        · have t2 : (pk.toList == [114, 118]) = true := by rw [Lib.toList_data, h114]; rfl
          have HN := Lib.hid (refParseRv_any pv (wr.alloc (.cells #[.string pk, .string pv] 31)) ok2)
          cases hpt : HexaMath.parseRv pv.data.toList with
          | none =>
            rw [hpt] at HN
            have HF : Hid (markOf L = (Mk.zero, 3)) := markOf_none HC0.out (Mk.run_bad _ _ _ _ _ HP.out HR.out (by unfold Mk.step; rw [if_neg h116, if_pos h114, hpt]; rfl))
            clear h116 h114 hpt
            rw [show orNone (none : Option Nat) = -1 from rfl] at HN
            obtain ⟨c0, c1, c2, c3, f0, f1, f2, f3⟩ := four_of HKA.out.blk
            go_wp2_with fail
            refine HN.out.mono ?_
            rintro e w2 ⟨rfl, hb2⟩
            have HW := Lib.hid (HKA.out.below hb2)
            have hX2 : w2.heap[wr.heap.size]? = some (.cells #[.string pk, .string pv] 31 (0, 0)) := (hb2.block _ (by simp)).trans HX.out
            clear p0 p1 c0 c1 c2 c3 f0 f1 f2 f3 hb2 HN HKA HX HK
            have p0 := cell_at (i := 0) hX2 rfl
            have p1 := cell_at (i := 1) hX2 rfl
            obtain ⟨c0, c1, c2, c3, f0, f1, f2, f3⟩ := four_of HW.out.blk
            obtain ⟨e0, e1, e2, e3, g0, g1, g2, g3⟩ := four_of HW.out.res
            have HY := Lib.hid ((HW.out.set 1 (.int .i64 (-1)) (u := { m with rv := -1 }) rfl).set 3 (.bool true) (u := { m with rv := -1, hr := true }) rfl)
            have Z := Lib.hid (four_set HY.out.res Mk.zero HY.out.bel)
            unfold Mk.zero at e0 e1 e2 e3 Z
            go_wp2
            generalize ((((((w2.setCell { block := B, off := 1 } (Value.int IntKind.i64 (-1))).setCell { block := B, off := 3 } (Value.bool true)).setCell { block := w.heap.size, off := 0 } (Value.int IntKind.i64 0)).setCell { block := w.heap.size, off := 1 } (Value.int IntKind.i64 0)).setCell { block := w.heap.size, off := 2 } (Value.bool false)).setCell { block := w.heap.size, off := 3 } (Value.bool false)) = w3 at *
            obtain ⟨⟨d0, d1, d2, d3, _, _, _, _⟩, hb3⟩ := Z.out
            clear c0 c1 c2 c3 f0 f1 f2 f3 e0 e1 e2 e3 g0 g1 g2 g3 Z
            try simp only [Exit.inBlock, Exit.then]
            refine bodyPost_ret (by simp [results, Tryd.results7, go_sem, d0, d1, d2, d3, Result.andThen]; try rfl) rfl ?_
            exact ⟨by rw [HF.out]; rfl, hb3⟩
          | some n =>
            rw [hpt] at HN
            have HS : Hid (Mk.zero.run (L.take (k + 1)) = some { m with rv := (n : Nat), hr := true }) := Mk.run_take _ _ _ _ _ _ HP.out HR.out (by unfold Mk.step; rw [if_neg h116, if_pos h114, hpt]; rfl)
            clear h116 h114 hpt
            rw [show orNone (some n) = (n : Int) from rfl] at HN
            obtain ⟨c0, c1, c2, c3, f0, f1, f2, f3⟩ := four_of HKA.out.blk
            go_wp2_with fail
            refine HN.out.mono ?_
            rintro e w2 ⟨rfl, hb2⟩
            have HW := Lib.hid (HKA.out.below hb2)
            have hX2 : w2.heap[wr.heap.size]? = some (.cells #[.string pk, .string pv] 31 (0, 0)) := (hb2.block _ (by simp)).trans HX.out
            clear p0 p1 c0 c1 c2 c3 f0 f1 f2 f3 hb2 HN HKA HX HK
            have p0 := cell_at (i := 0) hX2 rfl
            have p1 := cell_at (i := 1) hX2 rfl
            obtain ⟨c0, c1, c2, c3, f0, f1, f2, f3⟩ := four_of HW.out.blk
            have HY := Lib.hid ((HW.out.set 1 (.int .i64 n) (u := { m with rv := (n : Nat) }) rfl).set 3 (.bool true) (u := { m with rv := (n : Nat), hr := true }) rfl)
            go_wp2
            go_roundg (len - (k + 1))
            case measure => have := HJ.out; omega
            case rel => exact ⟨k + 1, _, by omega, by go_num, by exact hth, by show 0 ≤ (n : Int); omega, HY, HS⟩
        · have t2 : (pk.toList == [114, 118]) = false := by rw [beq_eq_false_iff_ne, Lib.toList_data]; exact h114
          have HS : Hid (Mk.zero.run (L.take (k + 1)) = some m) := Mk.run_take _ _ _ _ _ _ HP.out HR.out (by unfold Mk.step; rw [if_neg h116, if_neg h114])
          clear h116 h114 HK HX
          obtain ⟨c0, c1, c2, c3, f0, f1, f2, f3⟩ := four_of HKA.out.blk
          go_wp2
          go_roundg (len - (k + 1))
          case measure => have := HJ.out; omega
          case rel => exact ⟨k + 1, m, by omega, by go_num, hth, hrv, HKA, HS⟩
    · obtain rfl : k = len := by omega
      have HF : Hid (markOf L = (m, 0)) := markOf_some HC0.out (by have h := HR.out; rw [List.take_of_length_le HE.out] at h; exact h)
      obtain ⟨c0, c1, c2, c3, f0, f1, f2, f3⟩ := four_of HK.out.blk
      obtain ⟨e0, e1, e2, e3, g0, g1, g2, g3⟩ := four_of HK.out.res
      have Z := Lib.hid (four_set HK.out.res m HK.out.bel)
      unfold Mk.zero at e0 e1 e2 e3
      go_wp2
      generalize ((((wr.setCell { block := w.heap.size, off := 0 } (Value.int IntKind.i64 m.th)).setCell { block := w.heap.size, off := 1 } (Value.int IntKind.i64 m.rv)).setCell { block := w.heap.size, off := 2 } (Value.bool m.ht)).setCell { block := w.heap.size, off := 3 } (Value.bool m.hr)) = w3 at *
      obtain ⟨⟨d0, d1, d2, d3, _, _, _, _⟩, hb3⟩ := Z.out
      clear c0 c1 c2 c3 f0 f1 f2 f3 e0 e1 e2 e3 g0 g1 g2 g3 Z
      try simp only [Exit.inBlock, Exit.then]
      refine bodyPost_ret (by simp [results, Tryd.results7, go_sem, d0, d1, d2, d3, Result.andThen]; try rfl) rfl ?_
      exact ⟨by rw [HF.out]; rfl, hb3⟩
end Go.Proofs.YtfocmnjkoominaaDoor
