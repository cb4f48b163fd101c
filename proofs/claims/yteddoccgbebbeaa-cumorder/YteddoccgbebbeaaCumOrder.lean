/-
  'Rows.CumOrderSaid' is proved: a greater part picks no smaller index, a weight added at the end changes no pick of an old part, and a picked index has weight above 0. No condition.
-/
import Derived.Test.YteddoccgbebbeaaRows
import Derived.Test.YteddoccgbebbeaaShapes
import Derived.Test.YteddoccgbebbeaaCumPick
import Derived.Test.YteddoccgbebbeaaCumLaws
import Derived.Test.YteddoccgbebbeaaKeepSum
import Derived.Test.YteddoccgbebbeaaWeightsAny
import Derived.Test.YteddoccgbebbeaaCloneInts
import Derived.Test.YteddoccgbebbeaaLit
import Derived.Deep.DeepCutAuto
import Derived.WalkKit
import Derived.ProofKit
import Derived.OpenShut
import Derived.ShutString
import Derived.ChangeOld
import Derived.Below
namespace Go.Proofs.Yteddoccgbebbeaa.cumOrder
open Go.ChangeShapes Go.WideShapes Go.ChangeAt Go.RowKit
open Go.ChangeMaps (open_string shut_string)
set_option linter.unusedVariables false

theorem own : ownKnob Try.prog.godebug = none := by kernel_rfl
theorem laidOut : laidOutB Try.prog = true := by kernel_rfl

open Cum
theorem w0c : weightsE [0, 1] = 0 := by decide
theorem p0c : place [0, 1] 1 0 = 1 := by decide
theorem weights_cut (m : Int) (l : List Int) : (weightsM m (l.take 39)).take 39 = weightsM m (l.take 38) := by
  unfold weightsM
  rw [List.take_succ_cons, ← List.map_take, List.take_take]
  rfl

set_option maxRecDepth 100000 in
set_option maxHeartbeats 2000000 in
theorem walk (x0 : Sl Int) (x1 : Int) (x2 : Int) (x3 : Int) (w : World) (t0 : Tab w x0.a x0.len x0.cap 1 (x0.l.map iC)) (b0 : x0.len * 8 ≤ 140737488351232) (o0 : ∀ z ∈ x0.l, wfI z) (w1 : (Lit.int .i64 x1).wf = true) (w2 : (Lit.int .i64 x2).wf = true) (w3 : (Lit.int .i64 x3).wf = true) :
    Calls Try.prog 11 #[.slice x0.a x0.len x0.cap, .int .i64 x1, .int .i64 x2, .int .i64 x3] w fun e w' => e = .returned (.bool true) ∧ Below w.heap.size w w' := by
  obtain ⟨a, len, cap, L⟩ := x0
  have hm := t0.hmax
  have hle := t0.hle
  unfold maxLen at hm
  have hL := t0.hlen
  rw [List.length_map] at hL
  have b1 := wf_i64 w1
  have b2 := wf_i64 w2
  have b3 := wf_i64 w3
  have hb0 : Below w.heap.size w (w.alloc (.cells #[.int .i64 0, .int .i64 1] 3)) := (Below.refl _ _).alloc (Nat.le_refl _) _
  have C0 := cumPick_ok (some ⟨w.heap.size, 0, none⟩) 2 2 [0, 1] 0 _ (tab_lit w 3 1 2 ([(0 : Int), 1].map iC) #[.int .i64 0, .int .i64 1] rfl rfl (rows_of iC_len _) (by decide) _ rfl) w0c (by decide) (by decide)
  rw [p0c] at C0
  have C0 := Lib.hid C0
  have CW := Lib.hid (fun W (hb : Below w.heap.size w W) => weightsM_any a len cap L 1000 W (t0.below hb) o0 (by decide) (by decide))
  have HWL : Hid ((weightsM 1000 (L.take 39)).length ≤ 40) := Lib.hid (by rw [weightsM_len, List.length_take]; omega)
  have HCUT := Lib.hid (weights_cut 1000 L)
  have hwl : (weightsM 1000 (L.take 38)).length ≤ 39 := by rw [weightsM_len, List.length_take]; omega
  have HWE : Hid (weightsE (weightsM 1000 (L.take 38)) = 0) := Lib.hid (weightsM_ok (by decide) (by decide) (by rw [List.length_take]; omega))
  have hz : ∀ x ∈ weightsM 1000 (L.take 38), 0 ≤ x ∧ x ≤ 1000000000000 := fun x hx => by have := weightsM_bd (m := 1000) (by decide) x hx; omega
  have hps := weightsM_pos (m := 1000) (by decide) (by decide) (l := L.take 38)
  clear t0 o0 hL
  generalize weightsM 1000 (L.take 38) = WL at *
  generalize weightsM 1000 (L.take 39) = W0 at *
  obtain ⟨nn, hnn⟩ : ∃ nn, WL.length = nn := ⟨_, rfl⟩
  have hz0 : ∀ x ∈ WL, 0 ≤ x := fun x hx => (hz x hx).1
  have bA := sum_bd hz
  have bA2 : WL.sum ≤ 40000000000000 := by omega
  have HZ := Lib.hid hz
  have HZ0 := Lib.hid hz0
  have HNN := Lib.hid hnn
  rw [hnn] at hwl
  clear hz hz0 bA hnn
  go_enter Try.func11, Try.ntmps11
  go_wp2_with fail
  refine C0.out.mono ?_
  rintro e v1 ⟨rfl, hb1⟩
  have HB1 := Lib.hid (below_on hb0 hb1)
  clear C0 hb1 hb0
  go_wp2_with fail
  refine (CW.out _ HB1.out).mono ?_
  rintro e v2 ⟨s2, rfl, hO2, hb2⟩
  obtain ⟨q2, cap2, rfl, hT2⟩ := hO2.tab
  rw [List.length_map] at hT2 ⊢
  obtain ⟨n0, hn0⟩ : ∃ n0, W0.length = n0 := ⟨_, rfl⟩
  rw [hn0] at hT2 ⊢
  have hn40 : n0 ≤ 40 := by have := HWL.out; omega
  have hnnn : nn = min n0 39 := by have h1 := congrArg List.length HCUT.out; rw [List.length_take, hn0, HNN.out] at h1; omega
  have hq2 := hT2.hle
  have hT3 := hT2.upto_ nn (by omega)
  rw [← List.map_take, show W0.take nn = WL from by
    rw [← HCUT.out]
    by_cases c : n0 ≤ 39
    · rw [show nn = n0 by omega, List.take_of_length_le (by omega), List.take_of_length_le (by omega)]
    · rw [show nn = 39 by omega]] at hT3
  have HT3 := Lib.hid hT3
  have HB2 := Lib.hid (below_on HB1.out hb2)
  have rU := run_upto 22 3 1 Try.underlying22 elem_int4 size_int4 q2 n0 cap2 nn (by omega)
  clear hO2 hT2 hT3 hb2 HB1 CW HWL HCUT hn0
  go_upto_region 5 with fail
  go_cut [0] (fun s wx => s = .slice q2 nn cap2 ∧ wx = v2)
  case first =>
    by_cases h9 : n0 ≤ 39
    · obtain rfl : nn = n0 := by omega
      clear hnnn
      go_wp2_with fail
      go_meet
      case rel => exact ⟨rfl, rfl⟩
    · obtain rfl : nn = 39 := by omega
      have h9' : 39 < n0 := by omega
      clear hnnn h9
      go_wp2_with fail
      go_meet
      case rel => exact ⟨rfl, rfl⟩
  case rest =>
  obtain ⟨rfl, hwc⟩ := hcut
  have hwc := hwc.symm
  subst hwc
  clear rU hnnn hn40
  have HSM := Lib.hid (fun (W : World) (hW : Below v2.heap.size v2 W) => keepSum_any q2 nn cap2 WL W (HT3.out.below hW) (by omega) HZ.out)
  have d1 := withI_bd x1 WL.sum hps
  have HW1 := Lib.hid (fun W => within_int x1 WL.sum W b1 (by omega) (by omega))
  generalize withI x1 WL.sum = P at *
  have d2 := withI_bd x2 (WL.sum - P) (by omega)
  have HW2 := Lib.hid (fun W => within_int x2 (WL.sum - P) W b2 (by omega) (by omega))
  generalize withI x2 (WL.sum - P) = M at *
  have d3 := withI_bd x3 1000 (by omega)
  have HW3 := Lib.hid (fun W => within_int x3 1000 W b3 (by omega) (by omega))
  generalize withI x3 1000 = Z at *
  have HPK := Lib.hid (fun (p : Int) (h0 : 0 ≤ p) (hp : p < WL.sum) (W : World) (hW : Below v2.heap.size v2 W) => cumPick_ok q2 nn cap2 WL p W (HT3.out.below hW) HWE.out h0 hp)
  have hmono := place_mono (k := 1) (x := P) (y := P + M) HZ0.out (by decide) (by omega) (by omega) (by omega)
  have happ := place_append (x := P) (z := Z) HZ0.out (by omega) (by omega) (by omega)
  obtain ⟨y, hy, hyp⟩ := place_pos (x := P) HZ0.out (by omega) (by omega)
  have HZE : Hid (weightsE (WL ++ [Z]) = 0) := Lib.hid (weights_ok (by rw [List.length_append, HNN.out]; simp; omega) (fun x hx => by
    rcases List.mem_append.1 hx with hx | hx
    · exact HZ.out x hx
    · rw [List.mem_singleton] at hx; omega) (by rw [List.sum_append]; simp; omega))
  have HZS : Hid (P < (WL ++ [Z]).sum) := Lib.hid (by rw [List.sum_append]; simp; omega)
  have C4 := Lib.hid (HPK.out P (by omega) (by omega) v2 (Below.refl _ _))
  have HPK2 := Lib.hid (fun (W : World) (hW : Below v2.heap.size v2 W) => HPK.out (P + M) (by omega) (by omega) W hW)
  have HCL := Lib.hid (fun (W : World) (hW : Below v2.heap.size v2 W) => clone_ints q2 nn cap2 WL W (HT3.out.below hW) (by omega))
  have HPK3 := Lib.hid (fun (b : Option Addr) (n c : Nat) (W : World) (hT : Tab W b n c 1 ((WL ++ [Z]).map iC)) => cumPick_ok b n c (WL ++ [Z]) P W hT HZE.out d1.1 HZS.out)
  rw [happ] at HPK3
  have hIl : place WL 1 P < nn := by have := (List.getElem?_eq_some_iff.1 hy).1; rw [HNN.out] at this; exact this
  generalize place WL 1 P = I at *
  generalize place WL 1 (P + M) = J at *
  have HY := Lib.hid hy
  clear hy happ HZE HZS
  generalize WL.sum = A at *
  clear HPK
  go_wp2_with fail
  refine (HSM.out _ (Below.refl _ _)).mono ?_
  rintro e w4 ⟨rfl, rfl⟩
  go_wp2_with fail
  refine (HW1.out _).mono ?_
  rintro e w5 ⟨rfl, rfl⟩
  go_wp2_with fail
  refine C4.out.mono ?_
  rintro e v3 ⟨rfl, hb3⟩
  have HB3 := Lib.hid hb3
  clear hb3 C4 HW1
  go_wp2_with fail
  refine (HSM.out _ HB3.out).mono ?_
  rintro e w6 ⟨rfl, rfl⟩
  go_wp2_with fail
  refine (HW2.out _).mono ?_
  rintro e w7 ⟨rfl, rfl⟩
  go_wp2_with fail
  refine (HPK2.out _ HB3.out).mono ?_
  rintro e v4 ⟨rfl, hb4⟩
  have HB4 := Lib.hid (below_on HB3.out hb4)
  clear hb4 HB3 HPK2 HW2 HSM
  go_wp2_with fail
  refine (HCL.out _ HB4.out).mono ?_
  rintro e v5 ⟨s5, rfl, hO5, hb5⟩
  have HO5 := Lib.hid hO5
  have HB5 := Lib.hid (below_on HB4.out hb5)
  have hs5 := hb5.size
  have HL5 : Hid ((WL.map iC).length = nn) := Lib.hid (by rw [List.length_map, HNN.out])
  clear hO5 hb5 HCL
  go_wp2_with fail
  refine (HW3.out _).mono ?_
  rintro e w8 ⟨rfl, rfl⟩
  go_wp2_with (at_builtin; refine wpList_append_rows _ rfl _ _ 22 rfl v4.heap.size 3 _ 1 8 Try.underlying22 info_int rfl (by decide) _ (WL.map iC) rfl (HO5.out.alloc _) ⟨v5.heap.size, 0, none⟩ 1 1 [iC Z] rfl rfl (by simp [iC]) (one_row v5 (iC Z) 3 _ rfl) (by simp [iC, Value.oneCell']) (by rw [HL5.out]; omega) (by decide) (Nat.le_trans hs5 (by simp)) ?_; intro v6 w6 hO6 hg6)
  have hb6 : Below w4.heap.size w4 w6 := (HO5.out.alloc _).under (HB5.out.alloc HB5.out.size _) HB4.out.size (Nat.le_trans HB5.out.size (by simp)) hg6
  obtain ⟨q6, cap6, rfl, hT6⟩ := hO6.tab
  rw [show WL.map iC ++ [iC Z] = (WL ++ [Z]).map iC from by simp] at hT6 ⊢
  have C6 := Lib.hid (HPK3.out _ _ _ _ hT6)
  have HB6 := Lib.hid hb6
  clear hb6 hT6 hO6 hg6 HPK3 HO5 HB5 HB4 HL5 HW3
  refine C6.out.mono ?_
  rintro e v7 ⟨rfl, hb7⟩
  have HB7 := Lib.hid (below_on HB6.out hb7)
  obtain ⟨c1, o1, ha1, hbs1, d9⟩ := (HT3.out.below HB7.out).one (Below.refl _ _) (map_get HY.out)
  subst ha1
  have t5 : ((I : Int) == (I : Int)) = true := by simp
  clear hb7 C6
  go_wp2
  go_ret
  exact ⟨rfl, below_on HB2.out HB7.out⟩

set_option maxRecDepth 100000 in
theorem lifted (os : Os) (started : os.Started) (H : Type) (enc : TypeId × Value → H) :
    ReturnsInHanded {} Try.checked os 11 .any (Rows.cumOrderSpec.pre6 enc Try.prog Try.f11 Rows.cumOrderRow.domain false) (Rows.cumOrderSpec.post enc Try.prog Try.f11 false true false false) := by
  refine returnsInHanded_of_change_sized (C := Try.checked) own started (by kernel_rfl) Try.func11
    (ChangeSpec.witness6 (enc := enc) (C := Try.checked) false ⟨#[], #[.slice none 0 0, .int .i64 0, .int .i64 0, .int .i64 0], []⟩ 8 (by kernel_rfl) (by kernel_rfl) (by kernel_rfl) (by kernel_rfl)) ?_
  intro W base args ds gs before hval0 hW hcnd hsz0 _
  have hval : ∀ (j : Nat) t v, Try.f11.params[j]? = some t → args[j]? = some v → Value.okWide Try.prog W .any base t v := hval0
  have hW' := hW
  obtain ⟨p, q, hA0, hV, rfl, hfz, hnd⟩ := hW
  have hA : DataW.TrodAll enc Try.prog W 0 (fun _ => true) true Try.f11.params.toList args.toList ds p := hA0
  have hsz : (DataW.weightsEach Try.prog (Try.f11.params.toList ++ Rows.cumOrderSpec.plain.varTypes Try.prog) (ds ++ gs)).all (· ≤ reachBytes) = true := hsz0
  rw [Try.params11] at hA hval hsz
  obtain ⟨v0, vs0, d0, ds0, p0, q0, hargs, rfl, rfl, h0, r0⟩ := trodAll_cons hA
  obtain ⟨v1, vs1, d1, ds1, p1, q1, rfl, rfl, rfl, h1, r1⟩ := trodAll_cons r0
  obtain ⟨v2, vs2, d2, ds2, p2, q2, rfl, rfl, rfl, h2, r2⟩ := trodAll_cons r1
  obtain ⟨v3, vs3, d3, ds3, p3, q3, rfl, rfl, rfl, h3, r3⟩ := trodAll_cons r2
  obtain ⟨rfl, rfl, rfl⟩ := trodAll_nil r3
  obtain rfl : args = #[v0, v1, v2, v3] := by cases args; simp_all
  obtain ⟨rfl, rfl⟩ := trodVars_none hV
  have k0 := h0
  have L0 := light_of hsz (j := 0) (t := 22) (d := d0) rfl rfl
  have lt0 : ∀ x ∈ p0, x.block < W.heap.size := by obtain ⟨m, hm⟩ := k0; exact DataW.trod_lt m _ _ _ hm
  obtain ⟨a0, len0, cap0, rfl⟩ := okWide_slice Try.underlying22 (hval 0 22 v0 rfl rfl)
  obtain ⟨n0, f0⟩ := trod_slice_of Try.underlying22 h0
  have F0 := And.intro f0 L0
  obtain ⟨x0, e0, t0, b0, o0⟩ := el_slice (w := W) (k := 1) iC wfI (by decide) Try.underlying22 (by kernel_rfl) (el_int Try.underlying3) (B := 8) (by kernel_rfl) _ _ _ F0.1 F0.2
  simp only [slC, List.cons.injEq, Value.slice.injEq, and_true] at e0
  obtain ⟨rfl, rfl, rfl⟩ := e0
  have k1 := h1
  have L1 := light_of hsz (j := 1) (t := 3) (d := d1) rfl rfl
  have lt1 : ∀ x ∈ p1, x.block < W.heap.size := by obtain ⟨m, hm⟩ := k1; exact DataW.trod_lt m _ _ _ hm
  obtain ⟨x1, rfl, rfl, rfl, w1⟩ := open_int Try.underlying3 (hval 1 3 v1 rfl rfl) h1
  have k2 := h2
  have L2 := light_of hsz (j := 2) (t := 3) (d := d2) rfl rfl
  have lt2 : ∀ x ∈ p2, x.block < W.heap.size := by obtain ⟨m, hm⟩ := k2; exact DataW.trod_lt m _ _ _ hm
  obtain ⟨x2, rfl, rfl, rfl, w2⟩ := open_int Try.underlying3 (hval 2 3 v2 rfl rfl) h2
  have k3 := h3
  have L3 := light_of hsz (j := 3) (t := 3) (d := d3) rfl rfl
  have lt3 : ∀ x ∈ p3, x.block < W.heap.size := by obtain ⟨m, hm⟩ := k3; exact DataW.trod_lt m _ _ _ hm
  obtain ⟨x3, rfl, rfl, rfl, w3⟩ := open_int Try.underlying3 (hval 3 3 v3 rfl rfl) h3
  clear hA0 hval0
  refine (walk x0 x1 x2 x3 W t0 b0 o0 w1 w2 w3).mono fun e W' ⟨he, hg⟩ => ?_
  subst he
  exact ⟨_, rfl, _, _, _, [], _, [], hW', trodAll_mk1 (shut_bool Try.underlying4 _), (trodAll_cons_mk (Below.trod laidOut (by kernel_rfl) (of_decide_eq_true (by kernel_rfl)) k0 hg lt0) (trodAll_cons_mk (Below.trod laidOut (by kernel_rfl) (of_decide_eq_true (by kernel_rfl)) k1 hg lt1) (trodAll_cons_mk (Below.trod laidOut (by kernel_rfl) (of_decide_eq_true (by kernel_rfl)) k2 hg lt2) (trodAll_cons_mk (Below.trod laidOut (by kernel_rfl) (of_decide_eq_true (by kernel_rfl)) k3 hg lt3) trodAll_mk0)))), rfl, hg.frame _, fun h => by cases h⟩

theorem over : Rows.cumOrderRow.holds Try.pinned (OpenSpec.ofChange Rows.cumOrderSpec) :=
  OpenClaim.holds_of_wide 11 Try.f11 rfl rfl rfl rfl rfl rfl rfl ⟨rfl, rfl, rfl, rfl, rfl⟩ rfl rfl rfl rfl rfl (by kernel_rfl) Try.func11 (by kernel_rfl)
    (of_decide_eq_true (by kernel_rfl)) (by unfold Func.isWrapper; first | (rw [if_pos (by decide +kernel)]; kernel_rfl) | (rw [if_neg (by decide +kernel)]; exact ⟨rfl, rfl⟩))
    (fun os started H enc _ => lifted os started H enc)

/-- ████ THE STATEMENT ████ -/
theorem proved : Rows.CumOrderSaid :=
  over
#print axioms proved
end Go.Proofs.Yteddoccgbebbeaa.cumOrder
