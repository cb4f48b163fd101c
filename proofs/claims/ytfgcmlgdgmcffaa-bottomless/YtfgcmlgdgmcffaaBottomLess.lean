/-
  'Rows.BottomLessSaid' is proved: a lesser K keeps the least of what a greater one keeps, and by a further number no place grows. No condition.
-/
import Derived.Test.YtfgcmlgdgmcffaaRows
import Derived.Test.YtfgcmlgdgmcffaaShapes
import Derived.Test.YtfgcmlgdgmcffaaBottomFill
import Derived.Test.YtfgcmlgdgmcffaaEqualInts
import Derived.Test.YtfgcmlgdgmcffaaWithin
import Derived.Test.YtfgcmlgdgmcffaaDraw
import Derived.Test.YtfgcmlgdgmcffaaLit
import Derived.Test.YtfgcmlgdgmcffaaSubSlice
import Derived.Deep.DeepCutAuto
import Derived.BigQuiet
import Derived.Deep.QuietTactic
import Derived.WalkKit
import Derived.ProofKit
import Derived.OpenShut
import Derived.ShutString
import Derived.ChangeOld
import Derived.Below
namespace Go.Proofs.Ytfgcmlgdgmcffaa.bottomLess
open Go.ChangeShapes Go.WideShapes Go.ChangeAt Go.RowKit
open Go.ChangeMaps (open_string shut_string)
set_option linter.unusedVariables false

theorem own : ownKnob Try.prog.godebug = none := by kernel_rfl
theorem laidOut : laidOutB Try.prog = true := by kernel_rfl

open Least
theorem lit_put : bottomE 2 [5, 9] = 0 ∧ T 2 ([5, 9] ++ [7]) = [5, 7] := by decide +kernel
theorem blk_else {w : World} {X : Nat} {a : Addr} {v : Value} {o : Obj} (h : w.heap[X]? = some o) (hne : X ≠ a.block) : (w.setCell a v).heap[X]? = some o := (Below.heap_setCell _ _ _ _ hne).trans h

set_option maxRecDepth 100000 in
set_option maxHeartbeats 2000000 in
theorem walk (x0 : Int) (x1 : Int) (x2 : Sl Int) (x3 : Int) (w : World) (w0 : (Lit.int .i64 x0).wf = true) (w1 : (Lit.int .i64 x1).wf = true) (t2 : Tab w x2.a x2.len x2.cap 1 (x2.l.map iC)) (b2 : x2.len * 8 ≤ 140737488351232) (o2 : ∀ z ∈ x2.l, wfI z) (w3 : (Lit.int .i64 x3).wf = true) :
    Calls Try.prog 12 #[.int .i64 x0, .int .i64 x1, .slice x2.a x2.len x2.cap, .int .i64 x3] w fun e w' => e = .returned (.bool true) ∧ Below w.heap.size w w' := by
  obtain ⟨a, len, cap, L⟩ := x2
  have hb0 : Below w.heap.size w (w.alloc (.cells #[.int .i64 5, .int .i64 9] 3)) := (Below.refl _ _).alloc (Nat.le_refl _) _
  have C0 := bput_ok 2 (some ⟨w.heap.size, 0, none⟩) 2 2 [5, 9] 7 _ (tab_lit w 3 1 2 ([(5 : Int), 9].map iC) #[.int .i64 5, .int .i64 9] rfl rfl (rows_of iC_len _) (by decide) _ rfl) lit_put.1 (by decide) (by decide)
  rw [lit_put.2] at C0
  unfold bottomV at C0
  have HC0 := Lib.hid C0
  have HB0 := Lib.hid hb0
  have d0 := withI_bd x0 40 (by omega)
  have HW0 := Lib.hid (fun W => within_int x0 40 W (wf_i64 w0) (by omega) (by omega))
  generalize withI x0 40 = K0 at *
  obtain ⟨k, hk⟩ := Int.eq_ofNat_of_zero_le (show 0 ≤ 1 + K0 by omega)
  have k1 : 1 ≤ k := by omega
  have k2 : k ≤ 40 := by omega
  have hK0 := d0.1
  have hK1 := d0.2
  have HK := Lib.hid hk
  have d1 := withI_bd x1 (k : Int) (by omega)
  have HW1 := Lib.hid (fun W => within_int x1 (k : Int) W (wf_i64 w1) (by omega) (by omega))
  generalize withI x1 (k : Int) = K1 at *
  obtain ⟨m, hm⟩ := Int.eq_ofNat_of_zero_le (show 0 ≤ 1 + K1 by omega)
  have m1 : 1 ≤ m := by omega
  have m2 : m ≤ k := by omega
  have hK2 := d1.1
  have hK3 := d1.2
  have HM := Lib.hid hm
  have HF := Lib.hid (fun W (hb : Below w.heap.size w W) => filled_any k a len cap L W (t2.below hb) (fun z hz => o2 z hz) k1 k2)
  have HF2 := Lib.hid (fun W (hb : Below w.heap.size w W) => filled_any m a len cap L W (t2.below hb) (fun z hz => o2 z hz) m1 (by omega))
  have HD := Lib.hid (fun W => draw_int x3 W (wf_i64 w3))
  have hyb := withI_bd x3 72057594037927936 (by omega)
  have HGD : Hid (bottomE k (T k (drawsL (L.take 200))) = 0) := Lib.hid (T_good k1 k2 draws_bd)
  have HLT := Lib.hid (T_less m2 (drawsL (L.take 200)))
  have HGR := Lib.hid (fun x => T_grows k (drawsL (L.take 200)) x)
  have HLO := Lib.hid (fun (x : Int) (i : Nat) (y z : Int) => T_low (k := k) (l := drawsL (L.take 200)) (x := x) (i := i) (y := y) (z := z))
  generalize withI x3 72057594037927936 = y at *
  obtain ⟨y0, y1⟩ := hyb
  have HTL := Lib.hid (T_le k (drawsL (L.take 200)))
  obtain ⟨A, hA⟩ : ∃ A, T k (drawsL (L.take 200)) = A := ⟨_, rfl⟩
  obtain ⟨B, hB⟩ : ∃ B, T m (drawsL (L.take 200)) = B := ⟨_, rfl⟩
  rw [hA] at HF HGD HLT HGR HLO HTL
  rw [hB] at HF2 HLT
  clear t2 o2 C0 hb0 d0 d1 hk hm w0 w1 w3 hA hB
  go_enter Try.func12, Try.ntmps12
  go_wp2_with fail
  refine HC0.out.mono ?_
  rintro e v1 ⟨q, rfl, hO1, hb1⟩
  obtain ⟨aq, cq, rfl, hTq⟩ := hO1.tab
  rw [List.length_map, show ([5, 7] : List Int).length = 2 from rfl] at hTq ⊢
  have hba : Below v1.heap.size v1 (v1.alloc (.cells #[.int .i64 2, .slice aq 2 cq] 29)) := (Below.refl _ _).alloc (Nat.le_refl _) _
  obtain ⟨⟨c0, c1⟩, _, _⟩ := two_cells (MapKept.heap_alloc v1 (.cells #[.int .i64 2, .slice aq 2 cq] 29)).1
  have HX9 := Lib.hid (MapKept.heap_alloc v1 (.cells #[.int .i64 2, .slice aq 2 cq] 29)).1
  have hT2 := hTq.below hba
  have HB1 := Lib.hid (below_on (below_on HB0.out hb1) hba)
  obtain ⟨v2, hv2⟩ : ∃ v2, v1.alloc (.cells #[.int .i64 2, .slice aq 2 cq] 29) = v2 := ⟨_, rfl⟩
  rw [hv2] at c0 c1 HX9 hT2 HB1
  have hal : Below v2.heap.size v2 (v2.alloc (.cells #[.int .i64 5, .int .i64 7] 3)) := (Below.refl _ _).alloc (Nat.le_refl _) _
  have C2 := Lib.hid (equal_ints aq (some ⟨v2.heap.size, 0, none⟩) _ cq 2 2 [5, 7] [5, 7] (v2.alloc (.cells #[.int .i64 5, .int .i64 7] 3)) (hT2.below hal) (tab_lit v2 3 1 2 ([(5 : Int), 7].map iC) #[.int .i64 5, .int .i64 7] rfl rfl (rows_of iC_len _) (by decide) _ rfl) true (by simp))
  have HAL := Lib.hid hal
  obtain ⟨X, hX⟩ : ∃ X, v1.heap.size = X := ⟨_, rfl⟩
  have HXL : Hid (w.heap.size ≤ X) := Lib.hid (by have := (below_on HB0.out hb1).size; omega)
  rw [hX] at c0 c1 HX9
  clear hO1 hTq hb1 hba hT2 hal HC0 HB0
  go_upto_region 2 with fail
  try rw [hv2]
  try rw [hX]
  clear hv2 hX
  go_wp2_with fail
  refine C2.out.mono ?_
  rintro e v3 ⟨rfl, hb3⟩
  have HX9 := Lib.hid (kept_blk (below_on HAL.out hb3) HX9.out)
  have HB3 := Lib.hid (below_on HB1.out (below_on HAL.out hb3))
  clear hb3 HAL HB1 C2 c0 c1
  go_wp2_with fail
  refine (HW0.out _).mono ?_
  rintro e v4 ⟨rfl, hv4⟩
  rw [← hv4]
  clear hv4 HW0
  go_upto_region 5 with fail
  rw [HK.out]
  go_wp2_with fail
  refine (HW1.out _).mono ?_
  rintro e v4 ⟨rfl, hv4⟩
  rw [← hv4]
  clear hv4 HW1
  go_upto_region 6 with fail
  rw [HM.out]
  go_wp2_with fail
  refine (HF.out _ HB3.out).mono ?_
  rintro e v4 ⟨q4, rfl, hO4, hb4⟩
  obtain ⟨aA, cA, rfl, _⟩ := hO4.tab
  rw [List.length_map] at hO4 ⊢
  have HO4 := Lib.hid hO4
  have hb5 : Below v4.heap.size v4 (v4.alloc (.cells #[.int .i64 k, .slice aA A.length cA] 29)) := (Below.refl _ _).alloc (Nat.le_refl _) _
  have HX11 := Lib.hid (MapKept.heap_alloc v4 (.cells #[.int .i64 k, .slice aA A.length cA] 29)).1
  have hO5 := hO4.alloc (.cells #[.int .i64 k, .slice aA A.length cA] 29)
  have hX3 : X < v3.heap.size := (Array.getElem?_eq_some_iff.1 HX9.out).1
  have HX9 := Lib.hid (kept_blk hb5 (kept_blk hb4 HX9.out))
  have HB5 := Lib.hid (below_on (below_on HB3.out hb4) hb5)
  have hXA : X < v4.heap.size := by have := hb4.size; omega
  obtain ⟨v5, hv5⟩ : ∃ v5, v4.alloc (.cells #[.int .i64 k, .slice aA A.length cA] 29) = v5 := ⟨_, rfl⟩
  rw [hv5] at HX9 HX11 hO5 HB5
  have hv5s : v4.heap.size < v5.heap.size := by rw [← hv5]; simp
  obtain ⟨XA, hXA0⟩ : ∃ XA, v4.heap.size = XA := ⟨_, rfl⟩
  rw [hXA0] at HX11 hXA hv5s
  have HO5 := Lib.hid hO5
  have CF2 := Lib.hid (HF2.out v5 HB5.out)
  clear hO4 hb4 hb5 hO5 HF HF2 HO4
  go_upto_region 7 with fail
  try rw [hv5]
  try rw [hXA0]
  clear hv5 hXA0
  go_wp2_with fail
  refine CF2.out.mono ?_
  rintro e v6 ⟨q6, rfl, hO6, hb6⟩
  obtain ⟨aB, cB, rfl, _⟩ := hO6.tab
  rw [List.length_map] at hO6 ⊢
  have hk9 := kept_blk hb6 HX9.out
  obtain ⟨⟨c0, c1⟩, f0, f1⟩ := two_cells hk9
  have H9 := Lib.hid (two_set (K' := (m : Int)) (v' := .slice aB B.length cB) hk9)
  have H11 := Lib.hid (blk_else (a := ⟨X, 1, none⟩) (v := .slice aB B.length cB) (blk_else (a := ⟨X, 0, none⟩) (v := .int .i64 (m : Int)) (kept_blk hb6 HX11.out) (show XA ≠ X by omega)) (show XA ≠ X by omega))
  have HOA := Lib.hid (((HO5.out.below hb6).setCell (a := ⟨X, 0, none⟩) (show X < v3.heap.size from hX3) (.int .i64 (m : Int))).setCell (a := ⟨X, 1, none⟩) (show X < v3.heap.size from hX3) (.slice aB B.length cB))
  have HOB := Lib.hid ((hO6.setCell (a := ⟨X, 0, none⟩) (show X < v5.heap.size by omega) (.int .i64 (m : Int))).setCell (a := ⟨X, 1, none⟩) (show X < v5.heap.size by omega) (.slice aB B.length cB))
  have HB7 := Lib.hid (((below_on HB5.out hb6).setCell (p := ⟨X, 0, none⟩) HXL.out (.int .i64 (m : Int))).setCell (p := ⟨X, 1, none⟩) HXL.out (.slice aB B.length cB))
  obtain ⟨v7, hv7⟩ : ∃ v7, (v6.setCell ⟨X, 0, none⟩ (.int .i64 (m : Int))).setCell ⟨X, 1, none⟩ (.slice aB B.length cB) = v7 := ⟨_, rfl⟩
  rw [hv7] at H9 H11 HOA HOB HB7
  clear hO6 hb6 hk9 CF2 HB5 HX9 HX11 HO5 HB3 HXL
  go_upto_region 8 with fail
  try rw [hv7]
  clear hv7 c0 c1 f0 f1
  have HTA := Lib.hid HOA.out.tab_of
  have HTB := Lib.hid HOB.out.tab_of
  have hleA := HTA.out.hle
  have hmA := HTA.out.hmax
  unfold maxLen at hmA
  obtain ⟨⟨c0, c1⟩, _, _⟩ := two_cells H9.out
  obtain ⟨⟨g0, g1⟩, _, _⟩ := two_cells H11.out
  have hA40 : A.length ≤ 40 := by have := HTL.out; omega
  obtain ⟨tN, htN⟩ : ∃ tN, min m A.length = tN := ⟨_, rfl⟩
  have htA : tN ≤ A.length := by omega
  have HTM : Hid (Tab v7 aA tN cA 1 (B.map iC)) := Lib.hid (by
    have h1 := HTA.out.upto_ tN htA
    rw [← List.map_take] at h1
    have h2 : A.take tN = B := by
      rw [← HLT.out]
      by_cases h : m ≤ A.length
      · rw [show tN = m by omega]
      · rw [show tN = A.length by omega, List.take_of_length_le (Nat.le_refl _), List.take_of_length_le (by omega)]
    rw [h2] at h1
    exact h1)
  have hmin : min (m : Int) (A.length : Int) = (tN : Int) := by omega
  have rU := run_upto 22 3 1 Try.underlying22 elem_intB size_intB aA A.length cA tN (by omega)
  clear htN
  have HEQ := Lib.hid (fun (W : World) (hb : Below v7.heap.size v7 W) => equal_ints aB aA B.length cB tN cA B B W (HTB.out.below hb) (HTM.out.below hb) true (by simp))
  go_cut [69] (fun s wx => s = .bool false ∧ Hid (Below v7.heap.size v7 wx))
  case first =>
    go_wp2_with fail
    go_region_held3 (fun W => W.cell? ⟨X, 1, none⟩ = some (.slice aB B.length cB) ∧ W.cell? ⟨XA, 1, none⟩ = some (.slice aA A.length cA)) (first | exact ⟨c1, g1⟩ | exact ⟨d1, e1⟩ | go_keep) (first | (go_at_call 36; refine Calls.mono (HEQ.out _ ?_) ?_; (first | exact (Below.refl _ _).drew | exact Below.refl _ _); rintro e w8 ⟨rfl, hb8⟩; obtain ⟨⟨d0, d1⟩, _, _⟩ := two_cells (kept_blk (drew_below hb8) H9.out); obtain ⟨⟨e0, e1⟩, _, _⟩ := two_cells (kept_blk (drew_below hb8) H11.out)))
    all_goals
      go_wp2_with fail
      go_meet
      case rel => exact ⟨rfl, Lib.hid (drew_below hb8)⟩
  case rest =>
  obtain ⟨rfl, HB8⟩ := hcut
  clear rU hmin HTM HEQ HTB HOB c0 c1 g0 g1 HLT htA
  obtain ⟨v8, hv8⟩ : ∃ v8, v8 = wc := ⟨_, rfl⟩
  subst hv8
  have HOA8 := Lib.hid (HOA.out.below HB8.out)
  have H118 := Lib.hid (kept_blk HB8.out H11.out)
  have HBW := Lib.hid (below_on HB7.out HB8.out)
  have HTA8 := Lib.hid HOA8.out.tab_of
  obtain ⟨⟨c0, c1⟩, _, _⟩ := two_cells H118.out
  have hbig : XA < v8.heap.size := (Array.getElem?_eq_some_iff.1 H118.out).1
  have hbo : Below v8.heap.size v8 (v8.alloc (.cells #[.int .i64 0, .slice none 0 0] 29)) := (Below.refl _ _).alloc (Nat.le_refl _) _
  have HTV2 := Lib.hid (HTA8.out.below hbo)
  have HBL2 := Lib.hid (kept_blk hbo H118.out)
  have HX : Hid ((v8.alloc (.cells #[.int .i64 0, .slice none 0 0] 29)).heap[v8.heap.size]? = some (.cells #[.int .i64 0, .slice none 0 0] 29 (0, 0))) := Lib.hid (MapKept.heap_alloc v8 _).1
  have hne : XA ≠ v8.heap.size := by omega
  have HP := Lib.hid (fun (W : World) (hT : Tab W aA A.length cA 1 (A.map iC)) => bput_ok k aA A.length cA A y W hT HGD.out y0 y1)
  unfold bottomV at HP
  clear hbo HB8 HB7 HOA H11 HOA8 HTA H9
  go_upto_region 10 with fail
  go_cut [14, 10] (fun p e wx => ∃ (XX : Nat) (v2 : Value), p = .pointer (some ⟨XX, 0, none⟩) ∧ e = .int .i64 0 ∧ Hid (wx.heap[XX]? = some (.cells #[.int .i64 k, v2] 29 (0, 0))) ∧ Hid (Own wx v8.heap.size 3 1 v2 ((T k (A ++ [y])).map iC)) ∧ Hid (Below v8.heap.size v8 wx))
  case first =>
    go_wp2_with fail
    go_region_held3 (fun W => W.cell? ⟨XA, 0, none⟩ = some (.int .i64 k) ∧ W.cell? ⟨XA, 1, none⟩ = some (.slice aA A.length cA)) (first | exact ⟨c0, c1⟩ | exact ⟨d0, d1⟩ | exact ⟨(cell_old hbig).trans c0, (cell_old hbig).trans c1⟩ | exact ⟨(cell_old hbig2).trans d0, (cell_old hbig2).trans d1⟩ | exact ⟨(cell_else hne).trans ((cell_else hne).trans d0), (cell_else hne).trans ((cell_else hne).trans d1)⟩ | go_keep) (first | (go_at_call 35; refine (HD.out _).mono ?_; rintro e w5 ⟨rfl, rfl⟩) | (go_at_call 18; refine Calls.mono (HP.out _ ?_) ?_; (first | exact HTA8.out | exact HTV2.out | exact HTA8.out.below ((Below.refl _ _).drew) | exact HTV2.out.below ((Below.refl _ _).drew)); rintro e w2 ⟨v2, rfl, hO2, hb2⟩; obtain ⟨a2, cap2, rfl, hT2⟩ := hO2.tab; obtain ⟨⟨d0, d1⟩, q0, q1⟩ := two_cells (show w2.heap[XA]? = some (.cells #[.int .i64 k, .slice aA A.length cA] 29 (0, 0)) by (first | exact kept_blk hb2 H118.out | exact kept_blk hb2 HBL2.out)); have hbig2 : XA < w2.heap.size := (by have h5 := hb2.size; simp at h5; omega); have hbw : Below v8.heap.size v8 w2 := (by first | exact drew_below hb2 | exact (((Below.refl _ _).alloc (Nat.le_refl _) _).trans ((drew_below hb2).mono (by simp)))); (first | (obtain ⟨⟨p0, p1⟩, p2, p3⟩ := two_cells (kept_blk hb2 HX.out)) | skip)))
    all_goals
      go_wp2_with fail
      go_meet
      case rel =>
        rw [List.length_map] at hO2
        first
        | (refine ⟨w2.heap.size, _, rfl, rfl, Lib.hid (MapKept.heap_alloc w2 _).1, Lib.hid ((hO2.base_le (by simp)).alloc _), Lib.hid (hbw.alloc hbw.size _)⟩)
        | (refine ⟨v8.heap.size, _, rfl, rfl, Lib.hid (two_set (kept_blk hb2 HX.out)), Lib.hid (((hO2.setCell (a := ⟨v8.heap.size, 0, none⟩) (by simp) _).setCell (a := ⟨v8.heap.size, 1, none⟩) (by simp) _).base_le (by simp)), Lib.hid ((hbw.setCell (p := ⟨v8.heap.size, 0, none⟩) (Nat.le_refl _) _).setCell (p := ⟨v8.heap.size, 1, none⟩) (Nat.le_refl _) _)⟩)
  case rest =>
  obtain ⟨XX, v2, rfl, rfl, HXC, HO2, HB9⟩ := hcut
  obtain ⟨a2, cap2, rfl, hT2⟩ := HO2.out.tab
  have hXC := HXC.out
  rw [List.length_map] at hXC hT2
  obtain ⟨⟨p0, p1⟩, _, _⟩ := two_cells hXC
  have H119 := kept_blk HB9.out H118.out
  obtain ⟨⟨e0, e1⟩, _, _⟩ := two_cells H119
  have KXC := Lib.hid hXC
  have KXA := Lib.hid H119
  have HTA9 := Lib.hid (HTA8.out.below HB9.out)
  have HT2 := Lib.hid hT2
  have HBZ := Lib.hid (below_on HBW.out HB9.out)
  have hge := HGR.out y
  have HLO1 := Lib.hid (fun i u z => HLO.out y i u z)
  generalize T k (A ++ [y]) = C at *
  have t1 : ¬ C.length < A.length := by omega
  clear hXC HXC HO2 HB9 H118 H119 HTA8 HTV2 HBL2 HX HP HD HBW HGR HLO c0 c1 hne hbig hT2
  go_wp2_with fail
  go_loopg [91] A.length (fun g i wr => ∃ t : Nat, t + g = A.length ∧ i = .int .i64 t ∧ Hid (Below wc.heap.size wc wr))
  case atStart => exact ⟨0, by omega, rfl, Lib.hid (Below.refl _ _)⟩
  case round =>
    obtain ⟨t, ht0, rfl, HW⟩ := hrel
    have HJ := Lib.hid ht0
    have ht : t ≤ A.length := by omega
    clear ht0
    by_cases hlt : t < A.length
    · obtain ⟨z, hz⟩ : ∃ x, A[t]? = some x := ⟨_, List.getElem?_eq_getElem hlt⟩
      obtain ⟨u, hu⟩ : ∃ x, C[t]? = some x := ⟨_, List.getElem?_eq_getElem (by omega)⟩
      have huz := HLO1.out t u z hu hz
      obtain ⟨b1, o1, ha, hbs, m0⟩ := HTA9.out.one HW.out (map_get hz)
      obtain ⟨b2, o2, ha2, hbs2, n0⟩ := HT2.out.one HW.out (map_get hu)
      have r1 : wr.cell? ⟨XX, 1, none⟩ = some (.slice a2 C.length cap2) := (two_cells (kept_blk HW.out KXC.out)).1.2
      have r2 : wr.cell? ⟨XA, 1, none⟩ = some (.slice aA A.length cA) := (two_cells (kept_blk HW.out KXA.out)).1.2
      subst ha ha2
      have t2 : t < C.length := by omega
      have t3 : decide (z < u) = false := decide_eq_false (by omega)
      clear hz hu t1
      go_wp2_with fail
      go_quiet (fail)
      go_wp2_with fail
      go_roundg (A.length - (t + 1))
      case measure => have := HJ.out; omega
      case rel => exact ⟨t + 1, by omega, by go_num, Lib.hid (below_drewN HW.out _)⟩
    · obtain rfl : t = A.length := by omega
      go_wp2
      go_ret
      exact ⟨rfl, below_on HBZ.out HW.out⟩

set_option maxRecDepth 100000 in
theorem lifted (os : Os) (started : os.Started) (H : Type) (enc : TypeId × Value → H) :
    ReturnsInHanded {} Try.checked os 12 .any (Rows.bottomLessSpec.pre6 enc Try.prog Try.f12 Rows.bottomLessRow.domain false) (Rows.bottomLessSpec.post enc Try.prog Try.f12 false true false false) := by
  refine returnsInHanded_of_change_sized (C := Try.checked) own started (by kernel_rfl) Try.func12
    (ChangeSpec.witness6 (enc := enc) (C := Try.checked) false ⟨#[], #[.int .i64 0, .int .i64 0, .slice none 0 0, .int .i64 0], []⟩ 8 (by kernel_rfl) (by kernel_rfl) (by kernel_rfl) (by kernel_rfl)) ?_
  intro W base args ds gs before hval0 hW hcnd hsz0 _
  have hval : ∀ (j : Nat) t v, Try.f12.params[j]? = some t → args[j]? = some v → Value.okWide Try.prog W .any base t v := hval0
  have hW' := hW
  obtain ⟨p, q, hA0, hV, rfl, hfz, hnd⟩ := hW
  have hA : DataW.TrodAll enc Try.prog W 0 (fun _ => true) true Try.f12.params.toList args.toList ds p := hA0
  have hsz : (DataW.weightsEach Try.prog (Try.f12.params.toList ++ Rows.bottomLessSpec.plain.varTypes Try.prog) (ds ++ gs)).all (· ≤ reachBytes) = true := hsz0
  rw [Try.params12] at hA hval hsz
  obtain ⟨v0, vs0, d0, ds0, p0, q0, hargs, rfl, rfl, h0, r0⟩ := trodAll_cons hA
  obtain ⟨v1, vs1, d1, ds1, p1, q1, rfl, rfl, rfl, h1, r1⟩ := trodAll_cons r0
  obtain ⟨v2, vs2, d2, ds2, p2, q2, rfl, rfl, rfl, h2, r2⟩ := trodAll_cons r1
  obtain ⟨v3, vs3, d3, ds3, p3, q3, rfl, rfl, rfl, h3, r3⟩ := trodAll_cons r2
  obtain ⟨rfl, rfl, rfl⟩ := trodAll_nil r3
  obtain rfl : args = #[v0, v1, v2, v3] := by cases args; simp_all
  obtain ⟨rfl, rfl⟩ := trodVars_none hV
  have k0 := h0
  have L0 := light_of hsz (j := 0) (t := 3) (d := d0) rfl rfl
  have lt0 : ∀ x ∈ p0, x.block < W.heap.size := by obtain ⟨m, hm⟩ := k0; exact DataW.trod_lt m _ _ _ hm
  obtain ⟨x0, rfl, rfl, rfl, w0⟩ := open_int Try.underlying3 (hval 0 3 v0 rfl rfl) h0
  have k1 := h1
  have L1 := light_of hsz (j := 1) (t := 3) (d := d1) rfl rfl
  have lt1 : ∀ x ∈ p1, x.block < W.heap.size := by obtain ⟨m, hm⟩ := k1; exact DataW.trod_lt m _ _ _ hm
  obtain ⟨x1, rfl, rfl, rfl, w1⟩ := open_int Try.underlying3 (hval 1 3 v1 rfl rfl) h1
  have k2 := h2
  have L2 := light_of hsz (j := 2) (t := 22) (d := d2) rfl rfl
  have lt2 : ∀ x ∈ p2, x.block < W.heap.size := by obtain ⟨m, hm⟩ := k2; exact DataW.trod_lt m _ _ _ hm
  obtain ⟨a2, len2, cap2, rfl⟩ := okWide_slice Try.underlying22 (hval 2 22 v2 rfl rfl)
  obtain ⟨n2, f2⟩ := trod_slice_of Try.underlying22 h2
  have F2 := And.intro f2 L2
  obtain ⟨x2, e2, t2, b2, o2⟩ := el_slice (w := W) (k := 1) iC wfI (by decide) Try.underlying22 (by kernel_rfl) (el_int Try.underlying3) (B := 8) (by kernel_rfl) _ _ _ F2.1 F2.2
  simp only [slC, List.cons.injEq, Value.slice.injEq, and_true] at e2
  obtain ⟨rfl, rfl, rfl⟩ := e2
  have k3 := h3
  have L3 := light_of hsz (j := 3) (t := 3) (d := d3) rfl rfl
  have lt3 : ∀ x ∈ p3, x.block < W.heap.size := by obtain ⟨m, hm⟩ := k3; exact DataW.trod_lt m _ _ _ hm
  obtain ⟨x3, rfl, rfl, rfl, w3⟩ := open_int Try.underlying3 (hval 3 3 v3 rfl rfl) h3
  clear hA0 hval0
  refine (walk x0 x1 x2 x3 W w0 w1 t2 b2 o2 w3).mono fun e W' ⟨he, hg⟩ => ?_
  subst he
  exact ⟨_, rfl, _, _, _, [], _, [], hW', trodAll_mk1 (shut_bool Try.underlying4 _), (trodAll_cons_mk (Below.trod laidOut (by kernel_rfl) (of_decide_eq_true (by kernel_rfl)) k0 hg lt0) (trodAll_cons_mk (Below.trod laidOut (by kernel_rfl) (of_decide_eq_true (by kernel_rfl)) k1 hg lt1) (trodAll_cons_mk (Below.trod laidOut (by kernel_rfl) (of_decide_eq_true (by kernel_rfl)) k2 hg lt2) (trodAll_cons_mk (Below.trod laidOut (by kernel_rfl) (of_decide_eq_true (by kernel_rfl)) k3 hg lt3) trodAll_mk0)))), rfl, hg.frame _, fun h => by cases h⟩

theorem over : Rows.bottomLessRow.holds Try.pinned (OpenSpec.ofChange Rows.bottomLessSpec) :=
  OpenClaim.holds_of_wide 12 Try.f12 rfl rfl rfl rfl rfl rfl rfl ⟨rfl, rfl, rfl, rfl, rfl⟩ rfl rfl rfl rfl rfl (by kernel_rfl) Try.func12 (by kernel_rfl)
    (of_decide_eq_true (by kernel_rfl)) (by unfold Func.isWrapper; first | (rw [if_pos (by decide +kernel)]; kernel_rfl) | (rw [if_neg (by decide +kernel)]; exact ⟨rfl, rfl⟩))
    (fun os started H enc _ => lifted os started H enc)

/-- ████ THE STATEMENT ████ -/
theorem proved : Rows.BottomLessSaid :=
  over
#print axioms proved
end Go.Proofs.Ytfgcmlgdgmcffaa.bottomLess
