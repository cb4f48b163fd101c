/-
  'Rows.RegsOrderSaid' is proved: two rows of registers together fit under a third one just if each does; what fits both ways is the same. No condition.
-/
import Derived.Test.YtffgoekdjcempaaRows
import Derived.Test.YtffgoekdjcempaaShapes
import Derived.Test.YtffgoekdjcempaaRegsRow
import Derived.Deep.DeepCutAuto
import Derived.WalkKit
import Derived.ProofKit
import Derived.OpenShut
import Derived.ShutString
import Derived.ChangeOld
import Derived.Below
namespace Go.Proofs.Ytffgoekdjcempaa.regsOrder
open Go.ChangeShapes Go.WideShapes Go.ChangeAt Go.RowKit
open Go.ChangeMaps (open_string shut_string)
set_option linter.unusedVariables false

theorem own : ownKnob Try.prog.godebug = none := by kernel_rfl
theorem laidOut : laidOutB Try.prog = true := by kernel_rfl

open Regs
theorem own_ints {w : World} {base : Nat} {e : TypeId} {v : Value} {l : List Int} {K : Nat} (h : Own w base e 1 v (l.map iC)) (hl : l.length = K) : ∃ a cap, v = .slice a K cap ∧ Tab w a K cap 1 (l.map iC) := by
  obtain ⟨a, cap, rfl, T⟩ := h.tab
  rw [List.length_map, hl] at T ⊢
  exact ⟨a, cap, rfl, T⟩
theorem fit_12 : fitB [1] [2] = true := by decide
theorem pair_12 : pairE [1] [2] = 0 := by decide

set_option maxRecDepth 100000 in
set_option maxHeartbeats 2000000 in
theorem walk (x0 : Sl Int) (x1 : Sl Int) (x2 : Sl Int) (x3 : Int) (w : World) (t0 : Tab w x0.a x0.len x0.cap 1 (x0.l.map iC)) (b0 : x0.len * 8 ≤ 140737488351232) (o0 : ∀ z ∈ x0.l, wfI z) (t1 : Tab w x1.a x1.len x1.cap 1 (x1.l.map iC)) (b1 : x1.len * 8 ≤ 140737488351232) (o1 : ∀ z ∈ x1.l, wfI z) (t2 : Tab w x2.a x2.len x2.cap 1 (x2.l.map iC)) (b2 : x2.len * 8 ≤ 140737488351232) (o2 : ∀ z ∈ x2.l, wfI z) (w3 : (Lit.int .i64 x3).wf = true) :
    Calls Try.prog 9 #[.slice x0.a x0.len x0.cap, .slice x1.a x1.len x1.cap, .slice x2.a x2.len x2.cap, .int .i64 x3] w fun e w' => e = .returned (.bool true) ∧ Below w.heap.size w w' := by
  obtain ⟨a0, l0, c0, L0⟩ := x0
  obtain ⟨a1, l1, c1, L1⟩ := x1
  obtain ⟨a2, l2, c2, L2⟩ := x2
  simp only at t0 t1 t2 o0 o1 o2
  have hb0 : Below w.heap.size w ((w.alloc (.cells #[.int .i64 1] 3)).alloc (.cells #[.int .i64 2] 3)) := ((Below.refl _ _).alloc (Nat.le_refl _) _).alloc (by simp) _
  have T1 := (tab_lit w 3 1 1 ([1].map iC) #[.int .i64 1] rfl rfl (rows_of iC_len _) (by unfold maxLen; omega) _ rfl).below ((Below.refl _ (w.alloc (.cells #[.int .i64 1] 3))).alloc (Nat.le_refl _) (.cells #[.int .i64 2] 3))
  have T2 := tab_lit (w.alloc (.cells #[.int .i64 1] 3)) 3 1 1 ([2].map iC) #[.int .i64 2] rfl rfl (rows_of iC_len _) (by unfold maxLen; omega) (w.heap.size + 1) (by simp)
  have F0 := regsFit_any _ _ 1 1 1 1 [1] [2] _ T1 T2
  rw [fit_12, pair_12] at F0
  have F0 := Lib.hid F0
  have HB0 := Lib.hid hb0
  have hs := wf_i64 w3
  have hu := withI_bd x3 5 (by decide)
  have HWN := Lib.hid (fun W => within_int x3 5 W hs (by omega) (by omega))
  have H0 := Lib.hid t0
  have H1 := Lib.hid t1
  have H2 := Lib.hid t2
  have P0 := Lib.hid o0
  have P1 := Lib.hid o1
  have P2 := Lib.hid o2
  clear T1 T2 hb0 hs t0 t1 t2 o0 o1 o2 b0 b1 b2
  generalize withI x3 5 = u at *
  go_enter Try.func9, Try.ntmps9
  go_wp2_with fail
  refine F0.out.mono ?_
  rintro e w1 ⟨rfl, hb⟩
  have HB1 := Lib.hid (below_on HB0.out hb)
  clear hb F0 HB0
  go_upto_region 4 with fail
  go_cut [11] (fun p wx => ∃ (K Y : Nat), p = .pointer (some ⟨Y, 0, none⟩) ∧ Hid (lenR K = true) ∧ Hid (wx.cell? ⟨Y, 0, none⟩ = some (.int .i64 (K : Int))) ∧ Hid (Y < wx.heap.size) ∧ Hid (Below w.heap.size w wx))
  case first =>
    have hu5 : u = 0 ∨ u = 1 ∨ u = 2 ∨ u = 3 ∨ u = 4 := by omega
    clear hu
    rcases hu5 with rfl | rfl | rfl | rfl | rfl
    all_goals
      go_wp2_with fail
      refine (HWN.out _).mono ?_
      rintro e w5 ⟨rfl, hw5⟩
      rw [← hw5]
      clear hw5
      go_wp2_with fail
      go_meet
      case rel =>
        first
        | exact ⟨1, _, rfl, Lib.hid rfl, Lib.hid (cell_blk (MapKept.heap_alloc _ _).1 rfl), Lib.hid (by simp), Lib.hid (HB1.out.alloc HB1.out.size _)⟩
        | exact ⟨2, _, rfl, Lib.hid rfl, Lib.hid (cell_blk (MapKept.heap_alloc _ _).1 rfl), Lib.hid (by simp), Lib.hid (HB1.out.alloc HB1.out.size _)⟩
        | exact ⟨4, _, rfl, Lib.hid rfl, Lib.hid (cell_blk (MapKept.heap_alloc _ _).1 rfl), Lib.hid (by simp), Lib.hid (HB1.out.alloc HB1.out.size _)⟩
        | exact ⟨8, _, rfl, Lib.hid rfl, Lib.hid (cell_blk (MapKept.heap_alloc _ _).1 rfl), Lib.hid (by simp), Lib.hid (HB1.out.alloc HB1.out.size _)⟩
        | exact ⟨16, _, rfl, Lib.hid rfl, Lib.hid (cell_blk (MapKept.heap_alloc _ _).1 rfl), Lib.hid (by simp), Lib.hid (HB1.out.alloc HB1.out.size _)⟩
  case rest =>
  obtain ⟨K, Y, rfl, HKR, HY, HYL, HB⟩ := hcut
  clear HB1 HWN hu u
  have hK := (lenR_pos HKR.out).2
  have C0 := Lib.hid (rowClo_any Y K a0 l0 c0 L0 wc HY.out hK (H0.out.below HB.out) P0.out)
  go_wp2_with fail
  refine C0.out.mono ?_
  rintro e w2 ⟨v0, rfl, hO, hb⟩
  replace HY := Lib.hid ((hb.cell (p := ⟨Y, 0, none⟩) HYL.out).trans HY.out)
  replace HYL := Lib.hid (Nat.lt_of_lt_of_le HYL.out hb.size)
  replace HB := Lib.hid (below_on HB.out hb)
  obtain ⟨p0, q0, rfl, hT⟩ := own_ints hO (rowL_len K L0)
  have G0 := Lib.hid hT
  have C1 := Lib.hid (rowClo_any Y K a1 l1 c1 L1 w2 HY.out hK (H1.out.below HB.out) P1.out)
  clear hb hO hT C0
  go_wp2_with fail
  refine C1.out.mono ?_
  rintro e w3 ⟨v1, rfl, hO, hb⟩
  replace HY := Lib.hid ((hb.cell (p := ⟨Y, 0, none⟩) HYL.out).trans HY.out)
  replace HYL := Lib.hid (Nat.lt_of_lt_of_le HYL.out hb.size)
  replace HB := Lib.hid (below_on HB.out hb)
  replace G0 := Lib.hid (G0.out.below hb)
  obtain ⟨p1, q1, rfl, hT⟩ := own_ints hO (rowL_len K L1)
  have G1 := Lib.hid hT
  have C2 := Lib.hid (rowClo_any Y K a2 l2 c2 L2 w3 HY.out hK (H2.out.below HB.out) P2.out)
  clear hb hO hT C1
  go_wp2_with fail
  refine C2.out.mono ?_
  rintro e w4 ⟨v2, rfl, hO, hb⟩
  replace HB := Lib.hid (below_on HB.out hb)
  replace G0 := Lib.hid (G0.out.below hb)
  replace G1 := Lib.hid (G1.out.below hb)
  obtain ⟨p2, q2, rfl, hT⟩ := own_ints hO (rowL_len K L2)
  have G2 := Lib.hid hT
  have R0 := Lib.hid (rowL_ok HKR.out L0)
  have R1 := Lib.hid (rowL_ok HKR.out L1)
  have R2 := Lib.hid (rowL_ok HKR.out L2)
  have S0 := Lib.hid (rowL_len K L0)
  have S1 := Lib.hid (rowL_len K L1)
  have S2 := Lib.hid (rowL_len K L2)
  generalize rowL K L0 = A at *
  generalize rowL K L1 = B at *
  generalize rowL K L2 = C at *
  clear hb hO hT C2 HY HYL H0 H1 H2 P0 P1 P2 HKR hK
  have jn : joinL A B = joinR A B := by unfold joinL; rw [if_pos (pair_ok R0.out R1.out (by rw [S0.out, S1.out]))]
  have hJ := regsJoin_any _ _ _ _ _ _ A B w4 G0.out G1.out
  rw [jn, pair_ok R0.out R1.out (by rw [S0.out, S1.out])] at hJ
  have HJ := Lib.hid hJ
  have RJ := Lib.hid (join_ok R0.out R1.out (by rw [S0.out, S1.out]))
  have SJ := Lib.hid (joinR_len (a := A) (b := B) (by rw [S0.out, S1.out]))
  rw [S0.out] at SJ
  have HG := Lib.hid (fit_join (a := A) (b := B) (c := C) (by rw [S0.out, S1.out]) (by rw [S1.out, S2.out]))
  have HE := Lib.hid (fit_same (a := A) (b := B) (by rw [S0.out, S1.out]))
  generalize joinR A B = J at *
  clear jn hJ
  go_wp2_with fail
  refine HJ.out.mono ?_
  rintro e w5 ⟨vj, rfl, hO, hb⟩
  replace HB := Lib.hid (below_on HB.out hb)
  replace G0 := Lib.hid (G0.out.below hb)
  replace G1 := Lib.hid (G1.out.below hb)
  replace G2 := Lib.hid (G2.out.below hb)
  obtain ⟨p3, q3, rfl, hT⟩ := own_ints hO SJ.out
  have GJ := Lib.hid hT
  clear hb hO hT HJ
  have ff : ∀ X Z : List Int, regE X = 0 → regE Z = 0 → X.length = K → Z.length = K → fitB X Z = fitR X Z ∧ pairE X Z = 0 := fun X Z h1 h2 h3 h4 => by
    have := pair_ok h1 h2 (by rw [h3, h4])
    exact ⟨by unfold fitB; rw [if_pos this], this⟩
  have FF := Lib.hid ff
  clear ff
  have h := regsFit_any _ _ _ _ _ _ J C w5 GJ.out G2.out
  rw [(FF.out _ _ RJ.out R2.out SJ.out S2.out).1, (FF.out _ _ RJ.out R2.out SJ.out S2.out).2, HG.out] at h
  have N1 := Lib.hid h
  clear h
  go_wp2_with fail
  refine N1.out.mono ?_
  rintro e w6 ⟨rfl, hb⟩
  replace HB := Lib.hid (below_on HB.out hb)
  replace G0 := Lib.hid (G0.out.below hb)
  replace G1 := Lib.hid (G1.out.below hb)
  replace G2 := Lib.hid (G2.out.below hb)
  clear hb N1 GJ HG
  have h := regsFit_any _ _ _ _ _ _ A C w6 G0.out G2.out
  rw [(FF.out _ _ R0.out R2.out S0.out S2.out).1, (FF.out _ _ R0.out R2.out S0.out S2.out).2] at h
  have N2 := Lib.hid h
  clear h
  go_wp2_with fail
  refine N2.out.mono ?_
  rintro e w7 ⟨rfl, hb⟩
  replace HB := Lib.hid (below_on HB.out hb)
  replace G0 := Lib.hid (G0.out.below hb)
  replace G1 := Lib.hid (G1.out.below hb)
  replace G2 := Lib.hid (G2.out.below hb)
  clear hb N2
  have h := regsFit_any _ _ _ _ _ _ B C w7 G1.out G2.out
  rw [(FF.out _ _ R1.out R2.out S1.out S2.out).1, (FF.out _ _ R1.out R2.out S1.out S2.out).2] at h
  have N3 := Lib.hid h
  clear h
  go_wp2_with fail
  refine N3.out.mono ?_
  rintro e w8 ⟨rfl, hb⟩
  replace HB := Lib.hid (below_on HB.out hb)
  replace G0 := Lib.hid (G0.out.below hb)
  replace G1 := Lib.hid (G1.out.below hb)
  clear hb N3
  have h := regsFit_any _ _ _ _ _ _ A B w8 G0.out G1.out
  rw [(FF.out _ _ R0.out R1.out S0.out S1.out).1, (FF.out _ _ R0.out R1.out S0.out S1.out).2] at h
  have N4 := Lib.hid h
  clear h
  go_wp2_with fail
  refine N4.out.mono ?_
  rintro e w9 ⟨rfl, hb⟩
  replace HB := Lib.hid (below_on HB.out hb)
  replace G0 := Lib.hid (G0.out.below hb)
  replace G1 := Lib.hid (G1.out.below hb)
  clear hb N4
  have h := regsFit_any _ _ _ _ _ _ B A w9 G1.out G0.out
  rw [(FF.out _ _ R1.out R0.out S1.out S0.out).1, (FF.out _ _ R1.out R0.out S1.out S0.out).2] at h
  have N5 := Lib.hid h
  clear h
  go_wp2_with fail
  refine N5.out.mono ?_
  rintro e w10 ⟨rfl, hb⟩
  replace HB := Lib.hid (below_on HB.out hb)
  replace G0 := Lib.hid (G0.out.below hb)
  replace G1 := Lib.hid (G1.out.below hb)
  clear hb N5 FF
  generalize fitR A C = P at *
  generalize fitR B C = Q at *
  generalize fitR A B = U at *
  generalize fitR B A = V at *
  have HC := Lib.hid (equal_ints _ _ _ _ _ _ A B w10 G0.out G1.out (U && V) (by rw [Bool.and_eq_true]; exact HE.out))
  clear HE R0 R1 R2 RJ S0 S1 S2 SJ G0 G1 G2
  cases P <;> cases Q <;> cases U <;> cases V
  all_goals
    go_wp2_with fail
    refine HC.out.mono ?_
    rintro e w11 ⟨rfl, hb⟩
    replace HB := Lib.hid (below_on HB.out hb)
    clear hb
    go_wp2
    go_ret
    exact ⟨rfl, HB.out⟩

set_option maxRecDepth 100000 in
theorem lifted (os : Os) (started : os.Started) (H : Type) (enc : TypeId × Value → H) :
    ReturnsInHanded {} Try.checked os 9 .any (Rows.regsOrderSpec.pre6 enc Try.prog Try.f9 Rows.regsOrderRow.domain false) (Rows.regsOrderSpec.post enc Try.prog Try.f9 false true false false) := by
  refine returnsInHanded_of_change_sized (C := Try.checked) own started (by kernel_rfl) Try.func9
    (ChangeSpec.witness6 (enc := enc) (C := Try.checked) false ⟨#[], #[.slice none 0 0, .slice none 0 0, .slice none 0 0, .int .i64 0], []⟩ 8 (by kernel_rfl) (by kernel_rfl) (by kernel_rfl) (by kernel_rfl)) ?_
  intro W base args ds gs before hval0 hW hcnd hsz0 _
  have hval : ∀ (j : Nat) t v, Try.f9.params[j]? = some t → args[j]? = some v → Value.okWide Try.prog W .any base t v := hval0
  have hW' := hW
  obtain ⟨p, q, hA0, hV, rfl, hfz, hnd⟩ := hW
  have hA : DataW.TrodAll enc Try.prog W 0 (fun _ => true) true Try.f9.params.toList args.toList ds p := hA0
  have hsz : (DataW.weightsEach Try.prog (Try.f9.params.toList ++ Rows.regsOrderSpec.plain.varTypes Try.prog) (ds ++ gs)).all (· ≤ reachBytes) = true := hsz0
  rw [Try.params9] at hA hval hsz
  obtain ⟨v0, vs0, d0, ds0, p0, q0, hargs, rfl, rfl, h0, r0⟩ := trodAll_cons hA
  obtain ⟨v1, vs1, d1, ds1, p1, q1, rfl, rfl, rfl, h1, r1⟩ := trodAll_cons r0
  obtain ⟨v2, vs2, d2, ds2, p2, q2, rfl, rfl, rfl, h2, r2⟩ := trodAll_cons r1
  obtain ⟨v3, vs3, d3, ds3, p3, q3, rfl, rfl, rfl, h3, r3⟩ := trodAll_cons r2
  obtain ⟨rfl, rfl, rfl⟩ := trodAll_nil r3
  obtain rfl : args = #[v0, v1, v2, v3] := by cases args; simp_all
  obtain ⟨rfl, rfl⟩ := trodVars_none hV
  have k0 := h0
  have L0 := light_of hsz (j := 0) (t := 22) (d := d0) rfl rfl
  have lt0 : ∀ x ∈ p0, x.block < W.heap.size := by obtain ⟨m, hm⟩ := k0; exact DataW.trod_lt m _ _ _ hm
  obtain ⟨a0, len0, cap0, rfl⟩ := okWide_slice Try.underlying22 (hval 0 22 v0 rfl rfl)
  obtain ⟨n0, f0⟩ := trod_slice_of Try.underlying22 h0
  have F0 := And.intro f0 L0
  obtain ⟨x0, e0, t0, b0, o0⟩ := el_slice (w := W) (k := 1) iC wfI (by decide) Try.underlying22 (by kernel_rfl) (el_int Try.underlying3) (B := 8) (by kernel_rfl) _ _ _ F0.1 F0.2
  simp only [slC, List.cons.injEq, Value.slice.injEq, and_true] at e0
  obtain ⟨rfl, rfl, rfl⟩ := e0
  have k1 := h1
  have L1 := light_of hsz (j := 1) (t := 22) (d := d1) rfl rfl
  have lt1 : ∀ x ∈ p1, x.block < W.heap.size := by obtain ⟨m, hm⟩ := k1; exact DataW.trod_lt m _ _ _ hm
  obtain ⟨a1, len1, cap1, rfl⟩ := okWide_slice Try.underlying22 (hval 1 22 v1 rfl rfl)
  obtain ⟨n1, f1⟩ := trod_slice_of Try.underlying22 h1
  have F1 := And.intro f1 L1
  obtain ⟨x1, e1, t1, b1, o1⟩ := el_slice (w := W) (k := 1) iC wfI (by decide) Try.underlying22 (by kernel_rfl) (el_int Try.underlying3) (B := 8) (by kernel_rfl) _ _ _ F1.1 F1.2
  simp only [slC, List.cons.injEq, Value.slice.injEq, and_true] at e1
  obtain ⟨rfl, rfl, rfl⟩ := e1
  have k2 := h2
  have L2 := light_of hsz (j := 2) (t := 22) (d := d2) rfl rfl
  have lt2 : ∀ x ∈ p2, x.block < W.heap.size := by obtain ⟨m, hm⟩ := k2; exact DataW.trod_lt m _ _ _ hm
  obtain ⟨a2, len2, cap2, rfl⟩ := okWide_slice Try.underlying22 (hval 2 22 v2 rfl rfl)
  obtain ⟨n2, f2⟩ := trod_slice_of Try.underlying22 h2
  have F2 := And.intro f2 L2
  obtain ⟨x2, e2, t2, b2, o2⟩ := el_slice (w := W) (k := 1) iC wfI (by decide) Try.underlying22 (by kernel_rfl) (el_int Try.underlying3) (B := 8) (by kernel_rfl) _ _ _ F2.1 F2.2
  simp only [slC, List.cons.injEq, Value.slice.injEq, and_true] at e2
  obtain ⟨rfl, rfl, rfl⟩ := e2
  have k3 := h3
  have L3 := light_of hsz (j := 3) (t := 3) (d := d3) rfl rfl
  have lt3 : ∀ x ∈ p3, x.block < W.heap.size := by obtain ⟨m, hm⟩ := k3; exact DataW.trod_lt m _ _ _ hm
  obtain ⟨x3, rfl, rfl, rfl, w3⟩ := open_int Try.underlying3 (hval 3 3 v3 rfl rfl) h3
  clear hA0 hval0
  refine (walk x0 x1 x2 x3 W t0 b0 o0 t1 b1 o1 t2 b2 o2 w3).mono fun e W' ⟨he, hg⟩ => ?_
  subst he
  exact ⟨_, rfl, _, _, _, [], _, [], hW', trodAll_mk1 (shut_bool Try.underlying4 _), (trodAll_cons_mk (Below.trod laidOut (by kernel_rfl) (of_decide_eq_true (by kernel_rfl)) k0 hg lt0) (trodAll_cons_mk (Below.trod laidOut (by kernel_rfl) (of_decide_eq_true (by kernel_rfl)) k1 hg lt1) (trodAll_cons_mk (Below.trod laidOut (by kernel_rfl) (of_decide_eq_true (by kernel_rfl)) k2 hg lt2) (trodAll_cons_mk (Below.trod laidOut (by kernel_rfl) (of_decide_eq_true (by kernel_rfl)) k3 hg lt3) trodAll_mk0)))), rfl, hg.frame _, fun h => by cases h⟩

theorem over : Rows.regsOrderRow.holds Try.pinned (OpenSpec.ofChange Rows.regsOrderSpec) :=
  OpenClaim.holds_of_wide 9 Try.f9 rfl rfl rfl rfl rfl rfl rfl ⟨rfl, rfl, rfl, rfl, rfl⟩ rfl rfl rfl rfl rfl (by kernel_rfl) Try.func9 (by kernel_rfl)
    (of_decide_eq_true (by kernel_rfl)) (by unfold Func.isWrapper; first | (rw [if_pos (by decide +kernel)]; kernel_rfl) | (rw [if_neg (by decide +kernel)]; exact ⟨rfl, rfl⟩))
    (fun os started H enc _ => lifted os started H enc)

/-- ████ THE STATEMENT ████ -/
theorem proved : Rows.RegsOrderSaid :=
  over
#print axioms proved
end Go.Proofs.Ytffgoekdjcempaa.regsOrder
