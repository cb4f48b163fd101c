/-
  'Rows.CumSaysSaid' is proved: cum.Pick and cum.Even answer as the document says, at every list and every number. No condition.
-/
import Derived.Test.YteddoccgbebbeaaRows
import Derived.Test.YteddoccgbebbeaaShapes
import Derived.Test.YteddoccgbebbeaaCumEven
import Derived.Test.YteddoccgbebbeaaRefCum
import Derived.Test.YteddoccgbebbeaaEqualInts
import Derived.Test.YteddoccgbebbeaaLit
import Derived.Deep.DeepCutAuto
import Derived.WalkKit
import Derived.ProofKit
import Derived.OpenShut
import Derived.ShutString
import Derived.ChangeOld
import Derived.Below
namespace Go.Proofs.Yteddoccgbebbeaa.cumSays
open Go.ChangeShapes Go.WideShapes Go.ChangeAt Go.RowKit
open Go.ChangeMaps (open_string shut_string)
set_option linter.unusedVariables false

theorem own : ownKnob Try.prog.godebug = none := by kernel_rfl
theorem laidOut : laidOutB Try.prog = true := by kernel_rfl

open Cum
theorem ws : weightsE [0, 2, 3] = 0 := by decide
theorem ps : place [0, 2, 3] 1 2 = 2 := by decide

set_option maxRecDepth 100000 in
set_option maxHeartbeats 2000000 in
theorem walk (x0 : Sl Int) (x1 : Int) (x2 : Int) (x3 : Int) (w : World) (t0 : Tab w x0.a x0.len x0.cap 1 (x0.l.map iC)) (b0 : x0.len * 8 ≤ 140737488351232) (o0 : ∀ z ∈ x0.l, wfI z) (w1 : (Lit.int .i64 x1).wf = true) (w2 : (Lit.int .i64 x2).wf = true) (w3 : (Lit.int .i64 x3).wf = true) :
    Calls Try.prog 3 #[.slice x0.a x0.len x0.cap, .int .i64 x1, .int .i64 x2, .int .i64 x3] w fun e w' => e = .returned (.bool true) ∧ Below w.heap.size w w' := by
  obtain ⟨a, len, cap, L⟩ := x0
  have hm := t0.hmax
  have hle := t0.hle
  unfold maxLen at hm
  have HT := Lib.hid t0
  have hL := t0.hlen
  rw [List.length_map] at hL
  have hL' : L.length = len := hL
  have HL := Lib.hid hL'
  have CL := Lib.hid (fun W => cumPick_ok (some ⟨W.heap.size, 0, none⟩) 3 3 [0, 2, 3] 2 _ (tab_lit W 3 1 3 ([(0 : Int), 2, 3].map iC) #[.int .i64 0, .int .i64 2, .int .i64 3] rfl rfl (rows_of iC_len _) (by decide) _ rfl) ws (by decide) (by decide))
  rw [ps] at CL
  clear t0 o0 hL hL'
  by_cases hE : weightsE L = 0
  case neg =>
    have C1 := Lib.hid (cumPick_bad a len cap L x1 w HT.out hE)
    have C2 := Lib.hid (fun W (hb : Below w.heap.size w W) => even_bad a len cap L x2 x3 W (HT.out.below hb) hE)
    have C3 := Lib.hid (fun W (hb : Below w.heap.size w W) => refWeights_any a len cap L W (HT.out.below hb))
    rw [if_neg hE] at C3
    have t : (weightsE L != 0) = true := by simpa using hE
    have t1 : (weightsE L == weightsE L) = true := by simp
    clear hE
    generalize weightsE L = E at *
    go_enter Try.func3, Try.ntmps3
    go_wp2_with fail
    refine C1.out.mono ?_
    rintro e v1 ⟨rfl, hb1⟩
    have HB1 := Lib.hid hb1
    clear hb1
    go_wp2_with fail
    refine (C2.out _ HB1.out).mono ?_
    rintro e v2 ⟨rfl, hb2⟩
    have hb2' := below_on HB1.out hb2
    have HB2 := Lib.hid (hb2'.alloc hb2'.size (.cells #[.int .i64 0, .int .i64 2, .int .i64 3] 3))
    clear hb2 hb2'
    go_wp2_with fail
    refine (CL.out _).mono ?_
    rintro e v3 ⟨rfl, hb3⟩
    have HB3 := Lib.hid (below_on HB2.out hb3)
    clear hb3
    go_wp2_with fail
    refine (C3.out _ HB3.out).mono ?_
    rintro e w4 ⟨rfl, rfl⟩
    go_wp2
    go_ret
    exact ⟨rfl, HB3.out⟩
  obtain ⟨z1, z2, z3⟩ := weightsE_zero hE
  have h40 : len ≤ 40 := by have := HL.out; omega
  have HZ := Lib.hid z2
  have bA := sum_bd z2
  have bA2 : L.sum ≤ 40000000000000 := by omega
  have C3 := Lib.hid (fun W (hb : Below w.heap.size w W) => refWeights_any a len cap L W (HT.out.below hb))
  rw [hE, if_pos rfl] at C3
  have HE := Lib.hid hE
  clear hE z1 z2 z3 bA
  -- Pick: what it answers, and whether the law goes on
  obtain ⟨I, E1, d, C1, HI⟩ : ∃ (I E1 : Int) (d : Bool), Hid (Calls Try.prog 15 #[.slice a len cap, .int .i64 x1] w fun e w' => e = .returned (.tuple #[.int .i64 I, .int .i64 E1]) ∧ Below w.heap.size w w') ∧ Hid ((x1 < 0 ∨ L.sum ≤ x1) ∧ d = true ∧ I = 0 ∧ E1 = 1 ∨ (0 ≤ x1 ∧ x1 < L.sum) ∧ d = false ∧ E1 = 0 ∧ ∀ W, Below w.heap.size w W → Calls Try.prog 18 #[.slice a len cap, .int .i64 x1] W fun e w' => e = .returned (.int .i64 I) ∧ W = w') := by
    by_cases hp : x1 < 0 ∨ L.sum ≤ x1
    · exact ⟨0, 1, true, Lib.hid (cumPick_arg a len cap L x1 w HT.out HE.out hp), Lib.hid (Or.inl ⟨hp, rfl, rfl, rfl⟩)⟩
    · exact ⟨(place L 1 x1 : Nat), 0, false, Lib.hid (cumPick_ok a len cap L x1 w HT.out HE.out (by omega) (by omega)), Lib.hid (Or.inr ⟨by omega, rfl, rfl, fun W hb => refPick_any a len cap L x1 W (HT.out.below hb) h40 HZ.out (by omega) (by omega)⟩)⟩
  go_enter Try.func3, Try.ntmps3
  go_wp2_with fail
  refine C1.out.mono ?_
  rintro e v1 ⟨rfl, hb1⟩
  have HB1 := Lib.hid hb1
  clear hb1 C1
  by_cases hk : x2 < 1 ∨ 1000 < x2 ∨ x3 < 0 ∨ L.sum ≤ x3
  · have C2 := Lib.hid (even_arg a len cap L x2 x3 v1 (HT.out.below HB1.out) HE.out hk)
    obtain ⟨A, hA⟩ : ∃ A, L.sum = A := ⟨_, rfl⟩
    rw [hA] at C3 hk HI bA2
    clear hA
    have HK := Lib.hid hk
    clear hk
    go_wp2_with fail
    refine C2.out.mono ?_
    rintro e v2 ⟨rfl, hb2⟩
    have hb2' := below_on HB1.out hb2
    have HB2 := Lib.hid (hb2'.alloc hb2'.size (.cells #[.int .i64 0, .int .i64 2, .int .i64 3] 3))
    clear hb2 hb2'
    go_wp2_with fail
    refine (CL.out _).mono ?_
    rintro e v3 ⟨rfl, hb3⟩
    have HB3 := Lib.hid (below_on HB2.out hb3)
    clear hb3
    go_wp2_with fail
    refine (C3.out _ HB3.out).mono ?_
    rintro e w4 ⟨rfl, rfl⟩
    clear C3 CL HB2 C2
    go_upto_region 9 with fail
    go_cut [71] (fun s wx => s = .bool d ∧ wx = v3)
    case first =>
      rcases HI.out with ⟨hp, rfl, rfl, rfl⟩ | ⟨hp, rfl, rfl, hC⟩
      · by_cases h1 : x1 < 0
        · clear hp HI
          go_wp2_with fail
          go_meet
          case rel => exact ⟨rfl, rfl⟩
        · have h2 : 0 ≤ x1 := by omega
          have h3 : A ≤ x1 := by omega
          clear hp HI h1
          go_wp2_with fail
          go_meet
          case rel => exact ⟨rfl, rfl⟩
      · obtain ⟨h2, h3⟩ := hp
        clear hC HI
        go_wp2_with fail
        go_meet
        case rel => exact ⟨by rw [show decide (x1 < 0) = false from decide_eq_false (by omega), show decide (A ≤ x1) = false from decide_eq_false (by omega)]; rfl, rfl⟩
    case rest =>
    obtain ⟨rfl, hwc⟩ := hcut
    have hwc := hwc.symm
    subst hwc
    go_upto_if 71 with fail
    go_cut [] (fun wx => wx = v3)
    case first =>
      rcases HI.out with ⟨_, rfl, rfl, rfl⟩ | ⟨_, rfl, rfl, hC⟩
      · clear HI
        go_wp2_with fail
        go_meet
        case rel => rfl
      · have CP := Lib.hid (hC _ HB3.out)
        have t2 : (I != I) = false := by simp
        clear hC HI
        go_wp2_with fail
        refine CP.out.mono ?_
        rintro e w5 ⟨rfl, rfl⟩
        go_wp2_with fail
        go_meet
        case rel => rfl
    case rest =>
    have hcut := hcut.symm
    subst hcut
    clear HI
    have hk := HK.out
    clear HK
    by_cases h1 : x2 < 1
    · clear hk
      go_wp2
      go_ret
      exact ⟨rfl, HB3.out⟩
    have h1' : 1 ≤ x2 := by omega
    by_cases h2 : 1000 < x2
    · clear hk h1
      go_wp2
      go_ret
      exact ⟨rfl, HB3.out⟩
    have h2' : x2 ≤ 1000 := by omega
    by_cases h3 : x3 < 0
    · clear hk h1 h2
      go_wp2
      go_ret
      exact ⟨rfl, HB3.out⟩
    have h3' : 0 ≤ x3 := by omega
    have h4 : A ≤ x3 := by omega
    clear hk h1 h2 h3
    go_wp2
    go_ret
    exact ⟨rfl, HB3.out⟩
  · have k1 : 1 ≤ x2 := by omega
    have k2 : x2 ≤ 1000 := by omega
    have s0 : 0 ≤ x3 := by omega
    have s1 : x3 < L.sum := by omega
    clear hk
    obtain ⟨k, rfl⟩ := Int.eq_ofNat_of_zero_le (show 0 ≤ x2 by omega)
    have C2 := Lib.hid (even_ok a len cap L k x3 v1 (HT.out.below HB1.out) HE.out (by omega) (by omega) s0 s1)
    have C5 := Lib.hid (fun W (hb : Below w.heap.size w W) => refEven_any a len cap L k x3 W (HT.out.below hb) HE.out (by omega) s0 s1)
    have HEL := Lib.hid (evenL_len L k x3)
    rw [HL.out] at HEL
    generalize evenL L k x3 = M at *
    obtain ⟨A, hA⟩ : ∃ A, L.sum = A := ⟨_, rfl⟩
    rw [hA] at C3 s1 HI bA2
    clear hA
    go_wp2_with fail
    refine C2.out.mono ?_
    rintro e v2 ⟨s2, rfl, hO2, hb2⟩
    obtain ⟨q2, cap2, rfl, hT2⟩ := hO2.tab
    rw [List.length_map, HEL.out] at hT2 ⊢
    have HT2 := Lib.hid hT2
    have hb2' := below_on HB1.out hb2
    have hba := (Below.refl v2.heap.size v2).alloc (Nat.le_refl _) (.cells #[.int .i64 0, .int .i64 2, .int .i64 3] 3)
    have HBA := Lib.hid hba
    have HB2 := Lib.hid hb2'
    clear hb2 hb2' hO2 hT2 C2 hba
    go_wp2_with fail
    refine (CL.out _).mono ?_
    rintro e v3 ⟨rfl, hb3⟩
    have HB23 := Lib.hid (below_on HBA.out hb3)
    have HB3 := Lib.hid (below_on HB2.out (below_on HBA.out hb3))
    clear hb3
    go_wp2_with fail
    refine (C3.out _ HB3.out).mono ?_
    rintro e w4 ⟨rfl, rfl⟩
    clear C3 CL HB2 HBA
    go_upto_region 9 with fail
    go_cut [71] (fun s wx => s = .bool d ∧ wx = v3)
    case first =>
      rcases HI.out with ⟨hp, rfl, rfl, rfl⟩ | ⟨hp, rfl, rfl, hC⟩
      · by_cases h1 : x1 < 0
        · clear hp HI
          go_wp2_with fail
          go_meet
          case rel => exact ⟨rfl, rfl⟩
        · have h2 : 0 ≤ x1 := by omega
          have h3 : A ≤ x1 := by omega
          clear hp HI h1
          go_wp2_with fail
          go_meet
          case rel => exact ⟨rfl, rfl⟩
      · obtain ⟨h2, h3⟩ := hp
        clear hC HI
        go_wp2_with fail
        go_meet
        case rel => exact ⟨by rw [show decide (x1 < 0) = false from decide_eq_false (by omega), show decide (A ≤ x1) = false from decide_eq_false (by omega)]; rfl, rfl⟩
    case rest =>
    obtain ⟨rfl, hwc⟩ := hcut
    have hwc := hwc.symm
    subst hwc
    go_upto_if 71 with fail
    go_cut [] (fun wx => wx = v3)
    case first =>
      rcases HI.out with ⟨_, rfl, rfl, rfl⟩ | ⟨_, rfl, rfl, hC⟩
      · clear HI
        go_wp2_with fail
        go_meet
        case rel => rfl
      · have CP := Lib.hid (hC _ HB3.out)
        have t2 : (I != I) = false := by simp
        clear hC HI
        go_wp2_with fail
        refine CP.out.mono ?_
        rintro e w5 ⟨rfl, rfl⟩
        go_wp2_with fail
        go_meet
        case rel => rfl
    case rest =>
    have hcut := hcut.symm
    subst hcut
    clear HI
    have C6 := Lib.hid (C5.out _ HB3.out)
    clear C5
    go_wp2_with fail
    refine C6.out.mono ?_
    rintro e v6 ⟨s6, rfl, hO6, hb6⟩
    obtain ⟨q6, cap6, rfl, hT6⟩ := hO6.tab
    rw [List.length_map, HEL.out] at hT6 ⊢
    have CE := Lib.hid (equal_ints q2 q6 len cap2 len cap6 M M v6 (HT2.out.below (below_on HB23.out hb6)) hT6 true (by simp))
    have HB6 := Lib.hid (below_on HB3.out hb6)
    clear hO6 hT6 hb6 C6
    go_wp2_with fail
    refine CE.out.mono ?_
    rintro e v7 ⟨rfl, hb7⟩
    go_wp2
    go_ret
    exact ⟨rfl, below_on HB6.out hb7⟩

set_option maxRecDepth 100000 in
theorem lifted (os : Os) (started : os.Started) (H : Type) (enc : TypeId × Value → H) :
    ReturnsInHanded {} Try.checked os 3 .any (Rows.cumSaysSpec.pre6 enc Try.prog Try.f3 Rows.cumSaysRow.domain false) (Rows.cumSaysSpec.post enc Try.prog Try.f3 false true false false) := by
  refine returnsInHanded_of_change_sized (C := Try.checked) own started (by kernel_rfl) Try.func3
    (ChangeSpec.witness6 (enc := enc) (C := Try.checked) false ⟨#[], #[.slice none 0 0, .int .i64 0, .int .i64 0, .int .i64 0], []⟩ 8 (by kernel_rfl) (by kernel_rfl) (by kernel_rfl) (by kernel_rfl)) ?_
  intro W base args ds gs before hval0 hW hcnd hsz0 _
  have hval : ∀ (j : Nat) t v, Try.f3.params[j]? = some t → args[j]? = some v → Value.okWide Try.prog W .any base t v := hval0
  have hW' := hW
  obtain ⟨p, q, hA0, hV, rfl, hfz, hnd⟩ := hW
  have hA : DataW.TrodAll enc Try.prog W 0 (fun _ => true) true Try.f3.params.toList args.toList ds p := hA0
  have hsz : (DataW.weightsEach Try.prog (Try.f3.params.toList ++ Rows.cumSaysSpec.plain.varTypes Try.prog) (ds ++ gs)).all (· ≤ reachBytes) = true := hsz0
  rw [Try.params3] at hA hval hsz
  obtain ⟨v0, vs0, d0, ds0, p0, q0, hargs, rfl, rfl, h0, r0⟩ := trodAll_cons hA
  obtain ⟨v1, vs1, d1, ds1, p1, q1, rfl, rfl, rfl, h1, r1⟩ := trodAll_cons r0
  obtain ⟨v2, vs2, d2, ds2, p2, q2, rfl, rfl, rfl, h2, r2⟩ := trodAll_cons r1
  obtain ⟨v3, vs3, d3, ds3, p3, q3, rfl, rfl, rfl, h3, r3⟩ := trodAll_cons r2
  obtain ⟨rfl, rfl, rfl⟩ := trodAll_nil r3
  obtain rfl : args = #[v0, v1, v2, v3] := by cases args; simp_all
  obtain ⟨rfl, rfl⟩ := trodVars_none hV
  have k0 := h0
  have L0 := light_of hsz (j := 0) (t := 22) (d := d0) rfl rfl
  have lt0 : ∀ x ∈ p0, x.block < W.heap.size := by obtain ⟨m, hm⟩ := k0; exact DataW.trod_lt m _ _ _ hm
  obtain ⟨a0, len0, cap0, rfl⟩ := okWide_slice Try.underlying22 (hval 0 22 v0 rfl rfl)
  obtain ⟨n0, f0⟩ := trod_slice_of Try.underlying22 h0
  have F0 := And.intro f0 L0
  obtain ⟨x0, e0, t0, b0, o0⟩ := el_slice (w := W) (k := 1) iC wfI (by decide) Try.underlying22 (by kernel_rfl) (el_int Try.underlying3) (B := 8) (by kernel_rfl) _ _ _ F0.1 F0.2
  simp only [slC, List.cons.injEq, Value.slice.injEq, and_true] at e0
  obtain ⟨rfl, rfl, rfl⟩ := e0
  have k1 := h1
  have L1 := light_of hsz (j := 1) (t := 3) (d := d1) rfl rfl
  have lt1 : ∀ x ∈ p1, x.block < W.heap.size := by obtain ⟨m, hm⟩ := k1; exact DataW.trod_lt m _ _ _ hm
  obtain ⟨x1, rfl, rfl, rfl, w1⟩ := open_int Try.underlying3 (hval 1 3 v1 rfl rfl) h1
  have k2 := h2
  have L2 := light_of hsz (j := 2) (t := 3) (d := d2) rfl rfl
  have lt2 : ∀ x ∈ p2, x.block < W.heap.size := by obtain ⟨m, hm⟩ := k2; exact DataW.trod_lt m _ _ _ hm
  obtain ⟨x2, rfl, rfl, rfl, w2⟩ := open_int Try.underlying3 (hval 2 3 v2 rfl rfl) h2
  have k3 := h3
  have L3 := light_of hsz (j := 3) (t := 3) (d := d3) rfl rfl
  have lt3 : ∀ x ∈ p3, x.block < W.heap.size := by obtain ⟨m, hm⟩ := k3; exact DataW.trod_lt m _ _ _ hm
  obtain ⟨x3, rfl, rfl, rfl, w3⟩ := open_int Try.underlying3 (hval 3 3 v3 rfl rfl) h3
  clear hA0 hval0
  refine (walk x0 x1 x2 x3 W t0 b0 o0 w1 w2 w3).mono fun e W' ⟨he, hg⟩ => ?_
  subst he
  exact ⟨_, rfl, _, _, _, [], _, [], hW', trodAll_mk1 (shut_bool Try.underlying4 _), (trodAll_cons_mk (Below.trod laidOut (by kernel_rfl) (of_decide_eq_true (by kernel_rfl)) k0 hg lt0) (trodAll_cons_mk (Below.trod laidOut (by kernel_rfl) (of_decide_eq_true (by kernel_rfl)) k1 hg lt1) (trodAll_cons_mk (Below.trod laidOut (by kernel_rfl) (of_decide_eq_true (by kernel_rfl)) k2 hg lt2) (trodAll_cons_mk (Below.trod laidOut (by kernel_rfl) (of_decide_eq_true (by kernel_rfl)) k3 hg lt3) trodAll_mk0)))), rfl, hg.frame _, fun h => by cases h⟩

theorem over : Rows.cumSaysRow.holds Try.pinned (OpenSpec.ofChange Rows.cumSaysSpec) :=
  OpenClaim.holds_of_wide 3 Try.f3 rfl rfl rfl rfl rfl rfl rfl ⟨rfl, rfl, rfl, rfl, rfl⟩ rfl rfl rfl rfl rfl (by kernel_rfl) Try.func3 (by kernel_rfl)
    (of_decide_eq_true (by kernel_rfl)) (by unfold Func.isWrapper; first | (rw [if_pos (by decide +kernel)]; kernel_rfl) | (rw [if_neg (by decide +kernel)]; exact ⟨rfl, rfl⟩))
    (fun os started H enc _ => lifted os started H enc)

/-- ████ THE STATEMENT ████ -/
theorem proved : Rows.CumSaysSaid :=
  over
#print axioms proved
end Go.Proofs.Yteddoccgbebbeaa.cumSays
