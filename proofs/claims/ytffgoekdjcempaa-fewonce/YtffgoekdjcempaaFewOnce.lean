/-
  'Rows.FewOnceSaid' is proved: what is added at once is as what is added one by one, of a key that has a counter. No condition.
-/
import Derived.Test.YtffgoekdjcempaaRows
import Derived.Test.YtffgoekdjcempaaShapes
import Derived.Test.YtffgoekdjcempaaFewVar
import Derived.Test.YtffgoekdjcempaaRefFewSame
import Derived.Test.YtffgoekdjcempaaWithin
import Derived.Test.YtffgoekdjcempaaLit
import Derived.Deep.DeepCutAuto
import Derived.BigQuiet
import Derived.Deep.QuietTactic
import Derived.WalkKit
import Derived.ProofKit
import Derived.OpenShut
import Derived.ShutString
import Derived.ChangeOld
import Derived.Below
namespace Go.Proofs.Ytffgoekdjcempaa.fewOnce
open Go.ChangeShapes Go.WideShapes Go.ChangeAt Go.RowKit
open Go.ChangeMaps (open_string shut_string)
set_option linter.unusedVariables false

theorem own : ownKnob Try.prog.godebug = none := by kernel_rfl
theorem laidOut : laidOutB Try.prog = true := by kernel_rfl

--BEATS
open Few
theorem put_some {K L : Int} {a : Option Addr} {len cap : Nat} {C : List (Int × Int)} {i : Nat} {key m n : Int} {w : World} (h : Tab w a len cap 2 (C.map iiC)) (hG : Few.Good K L C) (hi : C[i]? = some (key, m)) (h1 : 1 ≤ n) (h2 : n ≤ 1000000000000) (h3 : m + n ≤ 1000000000000) :
    Calls Try.prog 22 #[.agg #[.int .i64 K, .int .i64 L, .slice a len cap], .int .i64 key, .int .i64 n] w fun e w' => ∃ v, e = .returned (.tuple #[.agg #[.int .i64 K, .int .i64 L, v], .int .i64 0]) ∧ Own w' w.heap.size 43 2 v ((C.set i (key, m + n)).map iiC) ∧ Below w.heap.size w w' := by
  obtain ⟨z0, z1, z2, _⟩ := put_at hG hi h1 h2
  refine (fewPut_any K L a len cap C key n w h).mono ?_
  rintro e w' ⟨Kr, Lr, Cr, v, rfl, hO, hw, hb⟩
  rw [(z2 h3).1] at hO ⊢
  rcases hO with ⟨_, h4, h5, h6⟩ | ⟨h4, _⟩
  · rw [z0, Int.add_zero] at h5
    rw [z1] at h6
    subst h4 h5 h6
    exact ⟨v, rfl, hw, hb⟩
  · exact absurd rfl h4
theorem put_over {K L : Int} {a : Option Addr} {len cap : Nat} {C : List (Int × Int)} {i : Nat} {key m n : Int} {w : World} (h : Tab w a len cap 2 (C.map iiC)) (hG : Few.Good K L C) (hi : C[i]? = some (key, m)) (h1 : 1 ≤ n) (h2 : n ≤ 1000000000000) (h3 : 1000000000000 < m + n) :
    Calls Try.prog 22 #[.agg #[.int .i64 K, .int .i64 L, .slice a len cap], .int .i64 key, .int .i64 n] w fun e w' => ∃ v, e = .returned (.tuple #[.agg #[.int .i64 0, .int .i64 0, v], .int .i64 2]) ∧ Own w' w.heap.size 43 2 v (([] : List (Int × Int)).map iiC) ∧ Below w.heap.size w w' := by
  obtain ⟨z0, z1, _, z2⟩ := put_at hG hi h1 h2
  refine (fewPut_any K L a len cap C key n w h).mono ?_
  rintro e w' ⟨Kr, Lr, Cr, v, rfl, hO, hw, hb⟩
  rw [z2 h3] at hO ⊢
  rcases hO with ⟨h4, _⟩ | ⟨_, h4, h5, h6⟩
  · cases h4
  · subst h4 h5 h6
    exact ⟨v, rfl, hw, hb⟩
theorem put_none {a : Option Addr} {len cap : Nat} {C : List (Int × Int)} {key n : Int} {w : World} (h : Tab w a len cap 2 (C.map iiC)) :
    Calls Try.prog 22 #[.agg #[.int .i64 0, .int .i64 0, .slice a len cap], .int .i64 key, .int .i64 n] w fun e w' => ∃ v, e = .returned (.tuple #[.agg #[.int .i64 0, .int .i64 0, v], .int .i64 1]) ∧ Own w' w.heap.size 43 2 v (([] : List (Int × Int)).map iiC) ∧ Below w.heap.size w w' := by
  refine (fewPut_any 0 0 a len cap C key n w h).mono ?_
  rintro e w' ⟨Kr, Lr, Cr, v, rfl, hO, hw, hb⟩
  have hE : Few.putE 0 0 C key n = 1 := by
    have h0 : fewE 0 0 C = 1 := fewE_arg (by omega)
    unfold Few.putE
    rw [if_pos (by rw [h0]; decide), h0]
  rw [hE] at hO ⊢
  rcases hO with ⟨h4, _⟩ | ⟨_, h4, h5, h6⟩
  · cases h4
  · subst h4 h5 h6
    exact ⟨v, rfl, hw, hb⟩
theorem good_51 : Few.Good 1 0 [(5, 1)] := ⟨by decide, by decide, by decide, by decide, by decide, by simp, List.pairwise_singleton _ _⟩
theorem box_kept {w : World} {X Y : Nat} {o : Obj} {a b : Int} {v : Value} (h : w.heap[X]? = some o) (hne : X ≠ Y) : (((w.setCell ⟨Y, 0, none⟩ (.int .i64 a)).setCell ⟨Y, 1, none⟩ (.int .i64 b)).setCell ⟨Y, 2, none⟩ v).heap[X]? = some o := by
  rw [Below.heap_setCell _ _ _ _ (show X ≠ Y from hne), Below.heap_setCell _ _ _ _ (show X ≠ Y from hne), Below.heap_setCell _ _ _ _ (show X ≠ Y from hne)]
  exact h
theorem set_set {C : List (Int × Int)} {i : Nat} {x y : Int × Int} : (C.set i x).set i y = C.set i y := List.set_set ..

set_option maxRecDepth 100000 in
set_option maxHeartbeats 12000000 in
theorem walk (x0_0 : Int) (x0_1 : Int) (x0_2 : Sl (Int × Int)) (x1 : Int) (x2 : Int) (x3 : Int) (w : World) (w0_0 : (Lit.int .i64 x0_0).wf = true) (w0_1 : (Lit.int .i64 x0_1).wf = true) (t0_2 : Tab w x0_2.a x0_2.len x0_2.cap 2 (x0_2.l.map iiC)) (b0_2 : x0_2.len * 16 ≤ 140737488351232) (o0_2 : ∀ z ∈ x0_2.l, wfII z) (w1 : (Lit.int .i64 x1).wf = true) (w2 : (Lit.int .i64 x2).wf = true) (w3 : (Lit.int .i64 x3).wf = true) :
    Calls Try.prog 11 #[.agg #[.int .i64 x0_0, .int .i64 x0_1, .slice x0_2.a x0_2.len x0_2.cap], .int .i64 x1, .int .i64 x2, .int .i64 x3] w fun e w' => e = .returned (.bool true) ∧ Below w.heap.size w w' := by
  obtain ⟨a, len, cap, C⟩ := x0_2
  simp only at t0_2 o0_2 b0_2
  generalize x0_0 = K at *
  generalize x0_1 = L at *
  have hl : C.length = len := by have h := t0_2.hlen; rw [List.length_map] at h; exact h
  have hcap : cap ≤ 9223372036854775807 := by have h := t0_2.hmax; unfold maxLen at h; simpa using h
  have hle : len ≤ cap := t0_2.hle
  have hb0 : Below w.heap.size w ((w.alloc (.cells #[.int .i64 K, .int .i64 L, .slice a len cap] 39)).alloc (.cells #[.int .i64 5, .int .i64 1] 43)) := ((Below.refl _ _).alloc (Nat.le_refl _) _).alloc (by simp) _
  have k1 : ((w.alloc (.cells #[.int .i64 K, .int .i64 L, .slice a len cap] 39)).alloc (.cells #[.int .i64 5, .int .i64 1] 43)).heap[w.heap.size]? = some (.cells #[.int .i64 K, .int .i64 L, .slice a len cap] 39 (0, 0)) := by
    rw [Below.heap_alloc _ _ _ (by simp)]
    exact (MapKept.heap_alloc w _).1
  have T1 := tab_lit (w.alloc (.cells #[.int .i64 K, .int .i64 L, .slice a len cap] 39)) 43 2 1 ([((5 : Int), (1 : Int))].map iiC) #[.int .i64 5, .int .i64 1] rfl rfl (rows_of iiC_len _) (by decide) (w.heap.size + 1) (by simp)
  have C0 := Lib.hid (put_some (n := 9) (i := 0) (key := 5) (m := 1) T1 good_51 rfl (by decide) (by decide) (by decide))
  obtain ⟨v0, hv0⟩ : ∃ v, (w.alloc (.cells #[.int .i64 K, .int .i64 L, .slice a len cap] 39)).alloc (.cells #[.int .i64 5, .int .i64 1] 43) = v := ⟨_, rfl⟩
  rw [hv0] at hb0 k1 C0
  have HV := Lib.hid hv0
  have HB0 := Lib.hid hb0
  have SF : Hid (FV v0 w.heap.size K L a len cap C) := Lib.hid ⟨k1, t0_2.below hb0⟩
  have HL := Lib.hid hl
  have T0 := Lib.hid t0_2
  have HW1 := Lib.hid (wf_i64 w1)
  have HW2 := Lib.hid (fun W => within_int x2 1000 W (wf_i64 w2) (by omega) (by omega))
  have HW3 := Lib.hid (fun W => within_int x3 1000 W (wf_i64 w3) (by omega) (by omega))
  have hd2 := withI_bd x2 1000 (by decide)
  have hd3 := withI_bd x3 1000 (by decide)
  generalize withI x2 1000 = u2 at *
  generalize withI x3 1000 = u3 at *
  clear hb0 k1 T1 hv0 t0_2 o0_2 b0_2 hl w0_0 w0_1 w1 w2 w3
  go_enter Try.func11, Try.ntmps11
  go_wp2_with fail
  rw [HV.out]
  obtain ⟨X, hX⟩ : ∃ X, w.heap.size = X := ⟨_, rfl⟩
  have HX := Lib.hid hX
  rw [hX] at SF C0 ⊢
  clear HV hX
  refine C0.out.mono ?_
  rintro e u1 ⟨q1, rfl, hO, hb⟩
  obtain ⟨a1, c1, rfl, hT⟩ := own_ctrs (n := 1) hO rfl
  replace SF := Lib.hid (SF.out.below hb)
  have hXu : X < u1.heap.size := (Array.getElem?_eq_some_iff.1 SF.out.1).1
  have hz := FV.new (K := 1) (L := 0) hT
  replace SF := Lib.hid (SF.out.below hz.2)
  have HB1 := Lib.hid (below_on (below_on HB0.out hb) hz.2)
  obtain ⟨v2, hv2⟩ : ∃ v, u1.alloc (.cells #[.int .i64 1, .int .i64 0, .slice a1 1 c1] 39) = v := ⟨_, rfl⟩
  rw [hv2] at SF HB1 hz
  obtain ⟨Y, hY⟩ : ∃ Y, u1.heap.size = Y := ⟨_, rfl⟩
  rw [hY] at hz hXu
  have SY := Lib.hid hz.1
  have HVX := Lib.hid (And.intro hv2 hY)
  have hXw : w.heap.size ≤ X := by rw [HX.out]; exact Nat.le_refl _
  clear hz hb hO hT hv2 hY HB0 C0
  go_upto_region 2 with fail
  rw [HVX.out.1, HVX.out.2]
  clear HVX
  have hal : Below v2.heap.size v2 (v2.alloc (.cells #[.int .i64 5, .int .i64 10] 43)) := (Below.refl _ _).alloc (Nat.le_refl _) _
  have CE := Lib.hid (equal_counters a1 (some ⟨v2.heap.size, 0, none⟩) 1 c1 1 1 [(5, 10)] [(5, 10)] _ (SY.out.2.below hal) (tab_lit v2 43 2 1 ([((5 : Int), (10 : Int))].map iiC) #[.int .i64 5, .int .i64 10] rfl rfl (rows_of iiC_len _) (by decide) _ rfl) true (by simp))
  obtain ⟨c0, d0, e0⟩ := SY.out.cells
  have HAL := Lib.hid hal
  clear hal
  go_wp2_with fail
  clear c0 d0 e0
  refine CE.out.mono ?_
  rintro e v3 ⟨rfl, hb⟩
  have HB3 := Lib.hid (below_on (below_on HB1.out HAL.out) hb)
  replace SF := Lib.hid ((SF.out.below HAL.out).below hb)
  replace SY := Lib.hid ((SY.out.below HAL.out).below hb)
  clear hb CE HAL HB1
  have HC := Lib.hid (fewCheck_any K L a len cap C v3 SF.out.2)
  obtain ⟨E, hE⟩ : ∃ E, fewE K L C = E := ⟨_, rfl⟩
  rw [hE] at HC
  have HE := Lib.hid hE
  unfold fewV at HC
  clear hE
  obtain ⟨c0, d0, e0⟩ := SF.out.cells
  go_wp2_with fail
  clear c0 d0 e0
  refine HC.out.mono ?_
  rintro e v4 ⟨rfl, hb⟩
  have HB4 := Lib.hid (below_on HB3.out hb)
  replace SF := Lib.hid (SF.out.below hb)
  replace SY := Lib.hid (SY.out.below hb)
  clear hb HC HB3
  obtain ⟨c0, d0, e0⟩ := SF.out.cells
  by_cases hE0 : E = 0
  rotate_left
  · have t : (E != 0) = true := by simpa using hE0
    clear hE0
    go_wp2_with fail
    go_ret
    exact ⟨rfl, HB4.out⟩
  subst hE0
  by_cases hl0 : len = 0
  · subst hl0
    go_wp2_with fail
    go_ret
    exact ⟨rfl, HB4.out⟩
  have tl : ((len : Int) == 0) = false := by simp; omega
  have hG := fewE_zero.1 HE.out
  have d1 := withI_bd x1 (len : Int) (by omega)
  have HWX := Lib.hid (fun W => (within_int x1 (len : Int) W HW1.out (by omega) (by omega)).mono (fun e w' (h : _ ∧ _) => (⟨h.1, h.2.symm⟩ : e = _ ∧ w' = W)))
  generalize withI x1 (len : Int) = i0 at *
  obtain ⟨i, rfl⟩ := Int.eq_ofNat_of_zero_le d1.1
  have hil : i < len := by omega
  obtain ⟨⟨key, m⟩, hx⟩ : ∃ x, C[i]? = some x := ⟨_, List.getElem?_eq_getElem (by rw [HL.out]; exact hil)⟩
  obtain ⟨bb, oo, ha, hbs, k0, k1⟩ := SF.out.2.two (Below.refl _ _) (map_get hx)
  have HCI := Lib.hid hx
  have hmb := hG.num _ (List.mem_of_getElem? hx)
  simp only at hmb
  have hm1 := hmb.1
  have hm2 := hmb.2
  have HG := Lib.hid hG
  subst ha
  clear hx hG hmb d1 hl0 k1
  go_upto_region 6 with fail
  go_cut [11] (fun t wx => t = .int .i64 key ∧ Hid (Below v4.heap.size v4 wx))
  case first =>
    go_wp2_with fail
    go_quiet (first | (go_at_call 24; exact Calls.quiet_of_same (HWX.out _)))
    go_wp2_with fail
    go_meet
    case rel => exact ⟨rfl, Lib.hid (below_drewN (Below.refl _ _) _)⟩
  case rest =>
  obtain ⟨rfl, HQ⟩ := hcut
  obtain ⟨wq, hwq⟩ : ∃ wq, wq = wc := ⟨_, rfl⟩
  subst hwq
  have HB5 := Lib.hid (below_on HB4.out HQ.out)
  replace SF := Lib.hid (SF.out.below HQ.out)
  replace SY := Lib.hid (SY.out.below HQ.out)
  clear HQ HB4 HWX c0 d0 e0 k0
  go_wp2_with fail
  refine (HW2.out _).mono ?_
  rintro e v5 ⟨rfl, hw5⟩
  rw [← hw5]
  clear hw5
  go_wp2_with fail
  refine (HW3.out _).mono ?_
  rintro e v5 ⟨rfl, hw5⟩
  rw [← hw5]
  clear hw5 HW2 HW3
  obtain ⟨s, hs⟩ : ∃ s, 1 + u2 = s := ⟨_, rfl⟩
  obtain ⟨t, ht⟩ : ∃ t, 1 + u3 = t := ⟨_, rfl⟩
  have hs1 : 1 ≤ s := by omega
  have hs2 : s ≤ 1000 := by omega
  have ht1 : 1 ≤ t := by omega
  have ht2 : t ≤ 1000 := by omega
  have HST := Lib.hid (And.intro hs ht)
  have hd21 := hd2.1
  have hd22 := hd2.2
  have hd31 := hd3.1
  have hd32 := hd3.2
  clear hd2 hd3 hs ht
  go_upto_region 8 with fail
  rw [HST.out.1, HST.out.2]
  clear hd21 hd22 hd31 hd32
  clear HST
  obtain ⟨c0, d0, e0⟩ := SF.out.cells
  obtain ⟨⟨x0, y0, z0⟩, f0, f1, f2⟩ := three_all SY.out.1
  have hXY : X ≠ Y := by omega
  have hwY : w.heap.size ≤ Y := by omega
  have hYq : Y < wq.heap.size := (Array.getElem?_eq_some_iff.1 SY.out.1).1
  by_cases hc1 : m + s ≤ 1000000000000
  · -- the first one goes in
    have P1 := Lib.hid (put_some SF.out.2 HG.out HCI.out hs1 (by omega) hc1)
    have hg1 := ((put_at HG.out HCI.out hs1 (by omega)).2.2.1 hc1).2
    have hi1 : (C.set i (key, m + s))[i]? = some (key, m + s) := by rw [List.getElem?_set_self (by rw [HL.out]; exact hil)]
    have HG1 := Lib.hid hg1
    have HI1 := Lib.hid hi1
    have HL1 : Hid ((C.set i (key, m + s)).length = len) := Lib.hid (by rw [List.length_set]; exact HL.out)
    have HSS := Lib.hid (set_set (C := C) (i := i) (x := (key, m + s)) (y := (key, m + s + t)))
    generalize C.set i (key, m + s) = D at *
    clear hg1 hi1
    go_wp2_with fail
    refine P1.out.mono ?_
    rintro e v6 ⟨q6, rfl, hO, hb⟩
    obtain ⟨a6, c6, rfl, hT⟩ := own_ctrs hO HL1.out
    replace SF := Lib.hid (SF.out.below hb)
    replace SY := Lib.hid (SY.out.below hb)
    have HB6 := Lib.hid (below_on HB5.out hb)
    clear x0 y0 z0 f0 f1 f2 c0 d0 e0
    obtain ⟨⟨x0, y0, z0⟩, f0, f1, f2⟩ := three_all SY.out.1
    have HBW := Lib.hid (three_below HB6.out hwY K L (.slice a6 len c6))
    have SX := Lib.hid (box_kept (a := K) (b := L) (v := .slice a6 len c6) SF.out.1 hXY)
    have SZ := Lib.hid (And.intro (three_set (x' := K) (y' := L) (v' := .slice a6 len c6) SY.out.1) (three_own hO hYq K L (.slice a6 len c6)).tab_of)
    have hsz : wq.heap.size ≤ v6.heap.size := hb.size
    clear hO hT hb P1 SF SY
    go_upto_region 9 with fail
    obtain ⟨w6, hw6⟩ : ∃ v, (((v6.setCell ⟨Y, 0, none⟩ (.int .i64 K)).setCell ⟨Y, 1, none⟩ (.int .i64 L)).setCell ⟨Y, 2, none⟩ (.slice a6 len c6)) = v := ⟨_, rfl⟩
    rw [hw6] at HBW SX SZ
    have hsz6 : w6.heap.size = v6.heap.size := by rw [← hw6]; simp [World.setCell]
    rw [hw6]
    clear x0 y0 z0 f0 f1 f2 hw6
    have SF : Hid (FV w6 X K L (some ⟨bb, oo, none⟩) len cap C) := Lib.hid ⟨SX.out, T0.out.below HBW.out⟩
    have SY : Hid (FV w6 Y K L a6 len c6 D) := Lib.hid ⟨SZ.out.1, SZ.out.2⟩
    have hYq6 : Y < w6.heap.size := by omega
    clear SX SZ hsz hsz6
    obtain ⟨⟨x0, y0, z0⟩, f0, f1, f2⟩ := three_all SY.out.1
    by_cases hc2 : m + s + t ≤ 1000000000000
    · have P2 := Lib.hid (put_some SY.out.2 HG1.out HI1.out ht1 (by omega) hc2)
      have hmst : m + (s + t) = m + s + t := by omega
      have HL2 : Hid ((C.set i (key, m + s + t)).length = len) := Lib.hid (by rw [List.length_set]; exact HL.out)
      have HL3 : Hid ((D.set i (key, m + s + t)).length = len) := Lib.hid (by rw [List.length_set]; exact HL1.out)
      have HP3 := Lib.hid (fun W (hT : Tab W (some ⟨bb, oo, none⟩) len cap 2 (C.map iiC)) => put_some hT HG.out HCI.out (n := s + t) (by omega) (by omega) (by omega))
      rw [hmst] at HP3
      go_wp2_with fail
      refine P2.out.mono ?_
      rintro e v7 ⟨q7, rfl, hO, hb⟩
      obtain ⟨a7, c7, rfl, hT⟩ := own_ctrs hO HL3.out
      replace SF := Lib.hid (SF.out.below hb)
      replace SY := Lib.hid (SY.out.below hb)
      have HB7 := Lib.hid (below_on HBW.out hb)
      clear x0 y0 z0 f0 f1 f2
      obtain ⟨⟨x0, y0, z0⟩, f0, f1, f2⟩ := three_all SY.out.1
      have HBW7 := Lib.hid (three_below HB7.out hwY K L (.slice a7 len c7))
      have SX := Lib.hid (box_kept (a := K) (b := L) (v := .slice a7 len c7) SF.out.1 hXY)
      have SZ := Lib.hid (And.intro (three_set (x' := K) (y' := L) (v' := .slice a7 len c7) SY.out.1) (three_own hO hYq6 K L (.slice a7 len c7)).tab_of)
      rw [HSS.out] at SZ
      clear hO hT hb P2 SF SY HBW HB6
      go_upto_region 10 with fail
      obtain ⟨w7, hw7⟩ : ∃ v, (((v7.setCell ⟨Y, 0, none⟩ (.int .i64 K)).setCell ⟨Y, 1, none⟩ (.int .i64 L)).setCell ⟨Y, 2, none⟩ (.slice a7 len c7)) = v := ⟨_, rfl⟩
      rw [hw7] at HBW7 SX SZ
      rw [hw7]
      clear x0 y0 z0 f0 f1 f2 hw7
      have SF : Hid (FV w7 X K L (some ⟨bb, oo, none⟩) len cap C) := Lib.hid ⟨SX.out, T0.out.below HBW7.out⟩
      have SY : Hid (FV w7 Y K L a7 len c7 (C.set i (key, m + s + t))) := Lib.hid ⟨SZ.out.1, SZ.out.2⟩
      have P3 := Lib.hid (HP3.out w7 SF.out.2)
      clear SX SZ HP3
      obtain ⟨c0, d0, e0⟩ := SF.out.cells
      go_wp2_with fail
      refine P3.out.mono ?_
      rintro e v8 ⟨q8, rfl, hO, hb⟩
      obtain ⟨a8, c8, rfl, hT⟩ := own_ctrs hO HL2.out
      replace SY := Lib.hid (SY.out.below hb)
      have hz := FV.new (K := K) (L := L) hT
      replace SY := Lib.hid (SY.out.below hz.2)
      have HB9 := Lib.hid (below_on (below_on HBW7.out hb) hz.2)
      obtain ⟨v9, hv9⟩ : ∃ v, v8.alloc (.cells #[.int .i64 K, .int .i64 L, .slice a8 len c8] 39) = v := ⟨_, rfl⟩
      rw [hv9] at SY HB9 hz
      obtain ⟨U, hU⟩ : ∃ U, v8.heap.size = U := ⟨_, rfl⟩
      rw [hU] at hz
      have SU := Lib.hid hz.1
      have HVX := Lib.hid (And.intro hv9 hU)
      clear hz hb hO hT hv9 hU P3 c0 d0 e0 SF
      have CS := Lib.hid (sameFew_any K K L L a7 a8 len c7 len c8 _ _ v9 SY.out.2 SU.out.2 true (by simp))
      unfold fewV at CS
      go_upto_region 11 with fail
      rw [HVX.out.1, HVX.out.2]
      clear HVX
      obtain ⟨x0, y0, z0⟩ := SY.out.cells
      obtain ⟨x1', y1, z1⟩ := SU.out.cells
      go_wp2_with fail
      refine CS.out.mono ?_
      rintro e v10 ⟨rfl, hb⟩
      have HB10 := Lib.hid (below_on HB9.out hb)
      clear hb x0 y0 z0 x1' y1 z1
      go_wp2
      go_ret
      exact ⟨rfl, HB10.out⟩
    · have P2 := Lib.hid (put_over SY.out.2 HG1.out HI1.out ht1 (by omega) (by omega))
      have HP3 := Lib.hid (fun W (hT : Tab W (some ⟨bb, oo, none⟩) len cap 2 (C.map iiC)) => put_over hT HG.out HCI.out (n := s + t) (by omega) (by omega) (by omega))
      clear hc2
      go_wp2_with fail
      refine P2.out.mono ?_
      rintro e v7 ⟨q7, rfl, hO, hb⟩
      obtain ⟨a7, c7, rfl, hT⟩ := own_ctrs (n := 0) hO rfl
      replace SF := Lib.hid (SF.out.below hb)
      replace SY := Lib.hid (SY.out.below hb)
      have HB7 := Lib.hid (below_on HBW.out hb)
      clear x0 y0 z0 f0 f1 f2
      obtain ⟨⟨x0, y0, z0⟩, f0, f1, f2⟩ := three_all SY.out.1
      have HBW7 := Lib.hid (three_below HB7.out hwY 0 0 (.slice a7 0 c7))
      have SX := Lib.hid (box_kept (a := 0) (b := 0) (v := .slice a7 0 c7) SF.out.1 hXY)
      clear hO hT hb P2 SF SY HBW HB6
      go_upto_region 10 with fail
      obtain ⟨w7, hw7⟩ : ∃ v, (((v7.setCell ⟨Y, 0, none⟩ (.int .i64 0)).setCell ⟨Y, 1, none⟩ (.int .i64 0)).setCell ⟨Y, 2, none⟩ (.slice a7 0 c7)) = v := ⟨_, rfl⟩
      rw [hw7] at HBW7 SX
      rw [hw7]
      clear x0 y0 z0 f0 f1 f2 hw7
      have SF : Hid (FV w7 X K L (some ⟨bb, oo, none⟩) len cap C) := Lib.hid ⟨SX.out, T0.out.below HBW7.out⟩
      have P3 := Lib.hid (HP3.out w7 SF.out.2)
      clear SX HP3
      obtain ⟨c0, d0, e0⟩ := SF.out.cells
      go_wp2_with fail
      refine P3.out.mono ?_
      rintro e v8 ⟨q8, rfl, hO, hb⟩
      obtain ⟨a8, c8, rfl, hT⟩ := own_ctrs (n := 0) hO rfl
      have HB8 := Lib.hid (below_on HBW7.out hb)
      have HB9 := Lib.hid (HB8.out.alloc HB8.out.size (.cells #[.int .i64 0, .int .i64 0, .slice a8 0 c8] 39))
      clear hb hO hT c0 d0 e0
      go_wp2
      go_ret
      exact ⟨rfl, HB9.out⟩
  · have P1 := Lib.hid (put_over SF.out.2 HG.out HCI.out hs1 (by omega) (by omega))
    have HP3 := Lib.hid (fun W (hT : Tab W (some ⟨bb, oo, none⟩) len cap 2 (C.map iiC)) => put_over hT HG.out HCI.out (n := s + t) (by omega) (by omega) (by omega))
    clear hc1
    go_wp2_with fail
    refine P1.out.mono ?_
    rintro e v6 ⟨q6, rfl, hO, hb⟩
    obtain ⟨a6, c6, rfl, hT⟩ := own_ctrs (n := 0) hO rfl
    replace SF := Lib.hid (SF.out.below hb)
    replace SY := Lib.hid (SY.out.below hb)
    have HB6 := Lib.hid (below_on HB5.out hb)
    clear x0 y0 z0 f0 f1 f2 c0 d0 e0
    obtain ⟨⟨x0, y0, z0⟩, f0, f1, f2⟩ := three_all SY.out.1
    have HBW := Lib.hid (three_below HB6.out hwY 0 0 (.slice a6 0 c6))
    have SX := Lib.hid (box_kept (a := 0) (b := 0) (v := .slice a6 0 c6) SF.out.1 hXY)
    have SZ := Lib.hid (And.intro (three_set (x' := 0) (y' := 0) (v' := .slice a6 0 c6) SY.out.1) (three_own hO hYq 0 0 (.slice a6 0 c6)).tab_of)
    have hsz : wq.heap.size ≤ v6.heap.size := hb.size
    clear hO hT hb P1 SF SY
    go_upto_region 9 with fail
    obtain ⟨w6, hw6⟩ : ∃ v, (((v6.setCell ⟨Y, 0, none⟩ (.int .i64 0)).setCell ⟨Y, 1, none⟩ (.int .i64 0)).setCell ⟨Y, 2, none⟩ (.slice a6 0 c6)) = v := ⟨_, rfl⟩
    rw [hw6] at HBW SX SZ
    have hsz6 : w6.heap.size = v6.heap.size := by rw [← hw6]; simp [World.setCell]
    rw [hw6]
    clear x0 y0 z0 f0 f1 f2 hw6
    have SF : Hid (FV w6 X K L (some ⟨bb, oo, none⟩) len cap C) := Lib.hid ⟨SX.out, T0.out.below HBW.out⟩
    have SY : Hid (FV w6 Y 0 0 a6 0 c6 []) := Lib.hid ⟨SZ.out.1, SZ.out.2⟩
    have P2 := Lib.hid (put_none (key := key) (n := t) SY.out.2)
    clear SX SZ hsz hsz6
    obtain ⟨⟨x0, y0, z0⟩, f0, f1, f2⟩ := three_all SY.out.1
    go_wp2_with fail
    refine P2.out.mono ?_
    rintro e v7 ⟨q7, rfl, hO, hb⟩
    obtain ⟨a7, c7, rfl, hT⟩ := own_ctrs (n := 0) hO rfl
    replace SF := Lib.hid (SF.out.below hb)
    replace SY := Lib.hid (SY.out.below hb)
    have HB7 := Lib.hid (below_on HBW.out hb)
    clear x0 y0 z0 f0 f1 f2
    obtain ⟨⟨x0, y0, z0⟩, f0, f1, f2⟩ := three_all SY.out.1
    have HBW7 := Lib.hid (three_below HB7.out hwY 0 0 (.slice a7 0 c7))
    have SX := Lib.hid (box_kept (a := 0) (b := 0) (v := .slice a7 0 c7) SF.out.1 hXY)
    clear hO hT hb P2 SF SY HBW HB6
    go_upto_region 10 with fail
    obtain ⟨w7, hw7⟩ : ∃ v, (((v7.setCell ⟨Y, 0, none⟩ (.int .i64 0)).setCell ⟨Y, 1, none⟩ (.int .i64 0)).setCell ⟨Y, 2, none⟩ (.slice a7 0 c7)) = v := ⟨_, rfl⟩
    rw [hw7] at HBW7 SX
    rw [hw7]
    clear x0 y0 z0 f0 f1 f2 hw7
    have SF : Hid (FV w7 X K L (some ⟨bb, oo, none⟩) len cap C) := Lib.hid ⟨SX.out, T0.out.below HBW7.out⟩
    have P3 := Lib.hid (HP3.out w7 SF.out.2)
    clear SX HP3
    obtain ⟨c0, d0, e0⟩ := SF.out.cells
    go_wp2_with fail
    refine P3.out.mono ?_
    rintro e v8 ⟨q8, rfl, hO, hb⟩
    obtain ⟨a8, c8, rfl, hT⟩ := own_ctrs (n := 0) hO rfl
    have HB8 := Lib.hid (below_on HBW7.out hb)
    have HB9 := Lib.hid (HB8.out.alloc HB8.out.size (.cells #[.int .i64 0, .int .i64 0, .slice a8 0 c8] 39))
    clear hb hO hT c0 d0 e0
    go_wp2
    go_ret
    exact ⟨rfl, HB9.out⟩

set_option maxRecDepth 100000 in
theorem lifted (os : Os) (started : os.Started) (H : Type) (enc : TypeId × Value → H) :
    ReturnsInHanded {} Try.checked os 11 .any (Rows.fewOnceSpec.pre6 enc Try.prog Try.f11 Rows.fewOnceRow.domain false) (Rows.fewOnceSpec.post enc Try.prog Try.f11 false true false false) := by
  refine returnsInHanded_of_change_sized (C := Try.checked) own started (by kernel_rfl) Try.func11
    (ChangeSpec.witness6 (enc := enc) (C := Try.checked) false ⟨#[], #[.agg #[.int .i64 0, .int .i64 0, .slice none 0 0], .int .i64 0, .int .i64 0, .int .i64 0], []⟩ 8 (by kernel_rfl) (by kernel_rfl) (by kernel_rfl) (by kernel_rfl)) ?_
  intro W base args ds gs before hval0 hW hcnd hsz0 _
  have hval : ∀ (j : Nat) t v, Try.f11.params[j]? = some t → args[j]? = some v → Value.okWide Try.prog W .any base t v := hval0
  have hW' := hW
  obtain ⟨p, q, hA0, hV, rfl, hfz, hnd⟩ := hW
  have hA : DataW.TrodAll enc Try.prog W 0 (fun _ => true) true Try.f11.params.toList args.toList ds p := hA0
  have hsz : (DataW.weightsEach Try.prog (Try.f11.params.toList ++ Rows.fewOnceSpec.plain.varTypes Try.prog) (ds ++ gs)).all (· ≤ reachBytes) = true := hsz0
  rw [Try.params11] at hA hval hsz
  obtain ⟨v0, vs0, d0, ds0, p0, q0, hargs, rfl, rfl, h0, r0⟩ := trodAll_cons hA
  obtain ⟨v1, vs1, d1, ds1, p1, q1, rfl, rfl, rfl, h1, r1⟩ := trodAll_cons r0
  obtain ⟨v2, vs2, d2, ds2, p2, q2, rfl, rfl, rfl, h2, r2⟩ := trodAll_cons r1
  obtain ⟨v3, vs3, d3, ds3, p3, q3, rfl, rfl, rfl, h3, r3⟩ := trodAll_cons r2
  obtain ⟨rfl, rfl, rfl⟩ := trodAll_nil r3
  obtain rfl : args = #[v0, v1, v2, v3] := by cases args; simp_all
  obtain ⟨rfl, rfl⟩ := trodVars_none hV
  have k0 := h0
  have L0 := light_of hsz (j := 0) (t := 39) (d := d0) rfl rfl
  have lt0 : ∀ x ∈ p0, x.block < W.heap.size := by obtain ⟨m, hm⟩ := k0; exact DataW.trod_lt m _ _ _ hm
  obtain ⟨cs0, rfl, hsz0⟩ := okWide_struct Try.underlying39 (hval 0 39 v0 rfl rfl)
  obtain ⟨n0, f0⟩ := trod_agg_of h0
  obtain ⟨c0_0, c0_1, c0_2, _, _, _, _, _, _, hcs0, g0_0, g0_1, g0_2⟩ := struct3 Try.underlying39 (by kernel_rfl) (by kernel_rfl) f0 L0
  obtain ⟨x0_0, e0_0, _, w0_0⟩ := DataW.trod_int Try.underlying3 g0_0.1
  obtain ⟨x0_1, e0_1, _, w0_1⟩ := DataW.trod_int Try.underlying3 g0_1.1
  obtain ⟨x0_2, e0_2, t0_2, b0_2, o0_2⟩ := el_slice (w := W) (k := 2) iiC wfII (by decide) Try.underlying37 (by kernel_rfl) (el_ii Try.underlying43 (by kernel_rfl) (by kernel_rfl) Try.underlying3 Try.underlying3) (B := 16) (by kernel_rfl) _ _ _ g0_2.1 g0_2.2
  simp only [slC, List.cons.injEq, and_true] at e0_0 e0_1 e0_2
  subst e0_0 e0_1 e0_2
  obtain rfl : cs0 = #[.int .i64 x0_0, .int .i64 x0_1, .slice x0_2.a x0_2.len x0_2.cap] := Array.toList_inj.1 hcs0
  have k1 := h1
  have L1 := light_of hsz (j := 1) (t := 3) (d := d1) rfl rfl
  have lt1 : ∀ x ∈ p1, x.block < W.heap.size := by obtain ⟨m, hm⟩ := k1; exact DataW.trod_lt m _ _ _ hm
  obtain ⟨x1, rfl, rfl, rfl, w1⟩ := open_int Try.underlying3 (hval 1 3 v1 rfl rfl) h1
  have k2 := h2
  have L2 := light_of hsz (j := 2) (t := 3) (d := d2) rfl rfl
  have lt2 : ∀ x ∈ p2, x.block < W.heap.size := by obtain ⟨m, hm⟩ := k2; exact DataW.trod_lt m _ _ _ hm
  obtain ⟨x2, rfl, rfl, rfl, w2⟩ := open_int Try.underlying3 (hval 2 3 v2 rfl rfl) h2
  have k3 := h3
  have L3 := light_of hsz (j := 3) (t := 3) (d := d3) rfl rfl
  have lt3 : ∀ x ∈ p3, x.block < W.heap.size := by obtain ⟨m, hm⟩ := k3; exact DataW.trod_lt m _ _ _ hm
  obtain ⟨x3, rfl, rfl, rfl, w3⟩ := open_int Try.underlying3 (hval 3 3 v3 rfl rfl) h3
  clear hA0 hval0
  refine (walk x0_0 x0_1 x0_2 x1 x2 x3 W w0_0 w0_1 t0_2 b0_2 o0_2 w1 w2 w3).mono fun e W' ⟨he, hg⟩ => ?_
  subst he
  exact ⟨_, rfl, _, _, _, [], _, [], hW', trodAll_mk1 (shut_bool Try.underlying4 _), (trodAll_cons_mk (Below.trod laidOut (by kernel_rfl) (of_decide_eq_true (by kernel_rfl)) k0 hg lt0) (trodAll_cons_mk (Below.trod laidOut (by kernel_rfl) (of_decide_eq_true (by kernel_rfl)) k1 hg lt1) (trodAll_cons_mk (Below.trod laidOut (by kernel_rfl) (of_decide_eq_true (by kernel_rfl)) k2 hg lt2) (trodAll_cons_mk (Below.trod laidOut (by kernel_rfl) (of_decide_eq_true (by kernel_rfl)) k3 hg lt3) trodAll_mk0)))), rfl, hg.frame _, fun h => by cases h⟩

theorem over : Rows.fewOnceRow.holds Try.pinned (OpenSpec.ofChange Rows.fewOnceSpec) :=
  OpenClaim.holds_of_wide 11 Try.f11 rfl rfl rfl rfl rfl rfl rfl ⟨rfl, rfl, rfl, rfl, rfl⟩ rfl rfl rfl rfl rfl (by kernel_rfl) Try.func11 (by kernel_rfl)
    (of_decide_eq_true (by kernel_rfl)) (by unfold Func.isWrapper; first | (rw [if_pos (by decide +kernel)]; kernel_rfl) | (rw [if_neg (by decide +kernel)]; exact ⟨rfl, rfl⟩))
    (fun os started H enc _ => lifted os started H enc)

/-- ████ THE STATEMENT ████ -/
theorem proved : Rows.FewOnceSaid :=
  over
#print axioms proved
end Go.Proofs.Ytffgoekdjcempaa.fewOnce
