/-
  'Rows.CombBackSaid' is proved: Rank and Some of combinations are inverse to each other, for every size. No condition.
-/
import Derived.Test.YtanfkolcoaofdaaRows
import Derived.Test.YtanfkolcoaofdaaShapes
import Derived.Test.YtanfkolcoaofdaaWithin
import Derived.Test.YtanfkolcoaofdaaCombSome
import Derived.Test.YtanfkolcoaofdaaCombRank
import Derived.Test.YtanfkolcoaofdaaEqualInts
import Derived.Test.YtanfkolcoaofdaaLit
import Derived.Deep.DeepCutAuto
import Derived.WalkKit
import Derived.ProofKit
import Derived.OpenShut
import Derived.ShutString
import Derived.ChangeOld
import Derived.Below
namespace Go.Proofs.Ytanfkolcoaofdaa.combBack
open Go.ChangeShapes Go.WideShapes Go.ChangeAt Go.RowKit
open Go.ChangeMaps (open_string shut_string)
set_option linter.unusedVariables false

theorem own : ownKnob Try.prog.godebug = none := by kernel_rfl
theorem laidOut : laidOutB Try.prog = true := by kernel_rfl

open Binom
theorem back_start : rankFrom 0 [1, 2] = 2 := by decide +kernel
theorem back_rising : rising 30 [1, 2] := (rising_iff _ _).2 ⟨by decide, by decide⟩

set_option maxRecDepth 100000 in
set_option maxHeartbeats 2000000 in
theorem walk (x0 : Sl Int) (x1 : Int) (x2 : Int) (w : World) (t0 : Tab w x0.a x0.len x0.cap 1 (x0.l.map iC)) (b0 : x0.len * 8 ≤ 140737488351232) (o0 : ∀ z ∈ x0.l, wfI z) (w1 : (Lit.int .i64 x1).wf = true) (w2 : (Lit.int .i64 x2).wf = true) :
    Calls Try.prog 10 #[.slice x0.a x0.len x0.cap, .int .i64 x1, .int .i64 x2] w fun e w' => e = .returned (.bool true) ∧ Below w.heap.size w w' := by
  obtain ⟨a, len, cap, L⟩ := x0
  have b1 := wf_i64 w1
  have b2 := wf_i64 w2
  have d0 := withI_bd x1 31 (by omega)
  have HT := Lib.hid t0
  clear t0 o0 b0
  have hbL : Below w.heap.size w (w.alloc (.cells #[.int .i64 1, .int .i64 2] 3)) := (Below.refl _ _).alloc (Nat.le_refl _) _
  have C0 := combRank_ok (some ⟨w.heap.size, 0, none⟩) 2 2 [1, 2] (w.alloc (.cells #[.int .i64 1, .int .i64 2] 3)) (tab_lit _ _ 1 2 ((nn [1, 2]).map iC) #[.int .i64 1, .int .i64 2] rfl rfl (rows_of iC_len _) (by decide) _ rfl) (by decide) back_rising
  rw [back_start] at C0
  have C0 := Lib.hid C0
  go_enter Try.func10, Try.ntmps10
  go_wp2_with fail
  refine C0.out.mono ?_
  rintro e v1 ⟨rfl, rfl⟩
  clear C0
  have HTb := Lib.hid (HT.out.below hbL)
  have HB := Lib.hid hbL
  clear hbL
  generalize (w.alloc (.cells #[.int .i64 1, .int .i64 2] 3)) = v1 at *
  obtain ⟨r1, c1, K1, K2, C1x⟩ : ∃ r1 c1 : Int, (checkC L = 0 → c1 = 0 ∧ ∃ m, L = nn m ∧ m.length ≤ 30 ∧ rising 30 m ∧ r1 = (rankFrom 0 m : Nat)) ∧ (checkC L ≠ 0 → c1 ≠ 0) ∧ Calls Try.prog 27 #[.slice a len cap] v1 (fun e w' => e = .returned (.tuple #[.int .i64 r1, .int .i64 c1]) ∧ v1 = w') := by
    by_cases hc : checkC L = 0
    · obtain ⟨m, rfl, h1, h2⟩ := checkC_zero hc
      exact ⟨_, 0, fun _ => ⟨rfl, m, rfl, h1, h2, rfl⟩, fun h => absurd hc h, combRank_ok a len cap m v1 HTb.out h1 h2⟩
    · exact ⟨0, _, fun h => absurd h hc, fun _ => hc, combRank_bad a len cap L v1 HTb.out hc⟩
  have C1 := Lib.hid C1x
  have HK1 := Lib.hid K1
  have HK2 := Lib.hid K2
  clear C1x K1 K2
  go_wp2_with fail
  refine C1.out.mono ?_
  rintro e v2 ⟨rfl, rfl⟩
  clear C1
  go_upto_if 38 with fail
  go_cut [] (fun wx => Below v1.heap.size v1 wx)
  case first =>
    by_cases hc : checkC L = 0
    · obtain ⟨rfl, m, hL, h1, h2, rfl⟩ := HK1.out hc
      obtain ⟨h3, h4⟩ := some_rank m.length 30 m rfl h2
      have S1 := some_ok m.length (rankFrom 0 m) h1 h3 v1
      rw [h4] at S1
      have hl := HTb.out.hlen
      rw [List.length_map, hL, nn_len] at hl
      rw [hl] at S1
      have S1 := Lib.hid S1
      have HLL := Lib.hid hL
      have hR := le_max m.length (Nat.le_refl 30)
      have hR2 : rankFrom 0 m ≤ 1073741824 := by omega
      clear h1 h2 h3 h4 hl hc hL HK1 HK2 hR
      generalize rankFrom 0 m = r at *
      go_wp2_with fail
      refine S1.out.mono ?_
      rintro e v4 ⟨s4, rfl, hO4, hb4⟩
      obtain ⟨a4, cap4, rfl, hT4⟩ := hO4.tab
      have l4 : ((nn m).map iC).length = len := by have := HTb.out.hlen; rw [HLL.out] at this; exact this
      rw [l4] at hT4 ⊢
      have E1 := Lib.hid (equal_ints a4 a len cap4 len cap (nn m) L v4 hT4 (HTb.out.below hb4) true (by rw [HLL.out]; simp))
      clear hO4 hT4 S1 l4
      go_wp2_with fail
      refine E1.out.mono ?_
      rintro e v5 ⟨rfl, hb5⟩
      go_wp2_with fail
      go_meet
      case rel => exact below_on hb4 hb5
    · have t1 : ((c1 : Int) == 0) = false := by rw [beq_eq_false_iff_ne]; exact HK2.out hc
      clear HK1 HK2 hc
      go_wp2_with fail
      go_meet
      case rel => exact Below.refl _ _
  case rest =>
  have HB2 := Lib.hid (below_on HB.out hcut)
  clear hcut HK1 HK2 HB HTb HT
  go_wp2_with fail
  refine (within_int _ _ _ b1 (by omega) (by omega)).mono ?_
  rintro e v3 ⟨rfl, rfl⟩
  generalize withI x1 31 = k at *
  obtain ⟨k, rfl⟩ := Int.eq_ofNat_of_zero_le d0.1
  have hk : k ≤ 30 := by omega
  clear d0
  have C2 := Lib.hid (ways_ok 30 k (by omega) (by omega))
  have hB1 := pos 30 k (by omega)
  have hB2 := le_max k (Nat.le_refl 30)
  have HS1 := Lib.hid (fun i (hi : i < binom 30 k) => some_ok k i hk hi)
  have HS2 := Lib.hid (some_none k (binom 30 k : Int) hk (by omega))
  have HR := Lib.hid (fun i (hi : i < binom 30 k) => And.intro (rank_some k 30 i hi) (someOf_rising k 30 i hi))
  generalize hBB : binom 30 k = B at *
  clear hBB
  go_wp2_with fail
  refine (C2.out _).mono ?_
  rintro e v3 ⟨rfl, rfl⟩
  clear C2
  have d2 := withI_bd x2 (B : Int) (by omega)
  go_wp2_with fail
  refine (within_int _ _ _ b2 (by omega) (by omega)).mono ?_
  rintro e v3 ⟨rfl, rfl⟩
  generalize withI x2 (B : Int) = i at *
  obtain ⟨i, rfl⟩ := Int.eq_ofNat_of_zero_le d2.1
  have hi : i < B := by omega
  clear d2
  have S1 := Lib.hid (HS1.out i hi)
  have hlen := someOf_len k 30 i
  obtain ⟨h1, h2⟩ := HR.out i hi
  have H2 := Lib.hid (And.intro hlen (And.intro h1 h2))
  generalize someOf k 30 i = X at *
  clear HS1 HR h1 h2 hlen
  go_wp2_with fail
  refine (S1.out _).mono ?_
  rintro e v4 ⟨s4, rfl, hO4, hb4⟩
  obtain ⟨a4, cap4, rfl, hT4⟩ := hO4.tab
  have l4 : ((nn X).map iC).length = k := by rw [List.length_map, nn_len]; exact H2.out.1
  rw [l4] at hT4 ⊢
  have HT4 := Lib.hid hT4
  have HB4 := Lib.hid (below_on HB2.out hb4)
  have C3 := combRank_ok a4 k cap4 X v4 hT4 (by rw [H2.out.1]; exact hk) H2.out.2.2
  rw [H2.out.2.1] at C3
  have C3 := Lib.hid C3
  have C4 := combCheck_any a4 k cap4 (nn X)
  rw [checkC_ok (by rw [H2.out.1]; exact hk) H2.out.2.2] at C4
  have C4 := Lib.hid C4
  clear hO4 hb4 hT4 l4 S1 HB2
  go_wp2_with fail
  refine C3.out.mono ?_
  rintro e v5 ⟨rfl, rfl⟩
  go_wp2_with fail
  refine (HS2.out _).mono ?_
  rintro e v5 ⟨rfl, rfl⟩
  go_wp2_with fail
  refine (C4.out _ HT4.out).mono ?_
  rintro e v5 ⟨rfl, rfl⟩
  go_wp2
  go_ret
  exact ⟨rfl, HB4.out⟩

set_option maxRecDepth 100000 in
theorem lifted (os : Os) (started : os.Started) (H : Type) (enc : TypeId × Value → H) :
    ReturnsInHanded {} Try.checked os 10 .any (Rows.combBackSpec.pre6 enc Try.prog Try.f10 Rows.combBackRow.domain false) (Rows.combBackSpec.post enc Try.prog Try.f10 false true false false) := by
  refine returnsInHanded_of_change_sized (C := Try.checked) own started (by kernel_rfl) Try.func10
    (ChangeSpec.witness6 (enc := enc) (C := Try.checked) false ⟨#[], #[.slice none 0 0, .int .i64 0, .int .i64 0], []⟩ 8 (by kernel_rfl) (by kernel_rfl) (by kernel_rfl) (by kernel_rfl)) ?_
  intro W base args ds gs before hval0 hW hcnd hsz0 _
  have hval : ∀ (j : Nat) t v, Try.f10.params[j]? = some t → args[j]? = some v → Value.okWide Try.prog W .any base t v := hval0
  have hW' := hW
  obtain ⟨p, q, hA0, hV, rfl, hfz, hnd⟩ := hW
  have hA : DataW.TrodAll enc Try.prog W 0 (fun _ => true) true Try.f10.params.toList args.toList ds p := hA0
  have hsz : (DataW.weightsEach Try.prog (Try.f10.params.toList ++ Rows.combBackSpec.plain.varTypes Try.prog) (ds ++ gs)).all (· ≤ reachBytes) = true := hsz0
  rw [Try.params10] at hA hval hsz
  obtain ⟨v0, vs0, d0, ds0, p0, q0, hargs, rfl, rfl, h0, r0⟩ := trodAll_cons hA
  obtain ⟨v1, vs1, d1, ds1, p1, q1, rfl, rfl, rfl, h1, r1⟩ := trodAll_cons r0
  obtain ⟨v2, vs2, d2, ds2, p2, q2, rfl, rfl, rfl, h2, r2⟩ := trodAll_cons r1
  obtain ⟨rfl, rfl, rfl⟩ := trodAll_nil r2
  obtain rfl : args = #[v0, v1, v2] := by cases args; simp_all
  obtain ⟨rfl, rfl⟩ := trodVars_none hV
  have k0 := h0
  have L0 := light_of hsz (j := 0) (t := 22) (d := d0) rfl rfl
  have lt0 : ∀ x ∈ p0, x.block < W.heap.size := by obtain ⟨m, hm⟩ := k0; exact DataW.trod_lt m _ _ _ hm
  obtain ⟨a0, len0, cap0, rfl⟩ := okWide_slice Try.underlying22 (hval 0 22 v0 rfl rfl)
  obtain ⟨n0, f0⟩ := trod_slice_of Try.underlying22 h0
  have F0 := And.intro f0 L0
  obtain ⟨x0, e0, t0, b0, o0⟩ := el_slice (w := W) (k := 1) iC wfI (by decide) Try.underlying22 (by kernel_rfl) (el_int Try.underlying3) (B := 8) (by kernel_rfl) _ _ _ F0.1 F0.2
  simp only [slC, List.cons.injEq, Value.slice.injEq, and_true] at e0
  obtain ⟨rfl, rfl, rfl⟩ := e0
  have k1 := h1
  have L1 := light_of hsz (j := 1) (t := 3) (d := d1) rfl rfl
  have lt1 : ∀ x ∈ p1, x.block < W.heap.size := by obtain ⟨m, hm⟩ := k1; exact DataW.trod_lt m _ _ _ hm
  obtain ⟨x1, rfl, rfl, rfl, w1⟩ := open_int Try.underlying3 (hval 1 3 v1 rfl rfl) h1
  have k2 := h2
  have L2 := light_of hsz (j := 2) (t := 3) (d := d2) rfl rfl
  have lt2 : ∀ x ∈ p2, x.block < W.heap.size := by obtain ⟨m, hm⟩ := k2; exact DataW.trod_lt m _ _ _ hm
  obtain ⟨x2, rfl, rfl, rfl, w2⟩ := open_int Try.underlying3 (hval 2 3 v2 rfl rfl) h2
  clear hA0 hval0
  refine (walk x0 x1 x2 W t0 b0 o0 w1 w2).mono fun e W' ⟨he, hg⟩ => ?_
  subst he
  exact ⟨_, rfl, _, _, _, [], _, [], hW', trodAll_mk1 (shut_bool Try.underlying4 _), (trodAll_cons_mk (Below.trod laidOut (by kernel_rfl) (of_decide_eq_true (by kernel_rfl)) k0 hg lt0) (trodAll_cons_mk (Below.trod laidOut (by kernel_rfl) (of_decide_eq_true (by kernel_rfl)) k1 hg lt1) (trodAll_cons_mk (Below.trod laidOut (by kernel_rfl) (of_decide_eq_true (by kernel_rfl)) k2 hg lt2) trodAll_mk0))), rfl, hg.frame _, fun h => by cases h⟩

theorem over : Rows.combBackRow.holds Try.pinned (OpenSpec.ofChange Rows.combBackSpec) :=
  OpenClaim.holds_of_wide 10 Try.f10 rfl rfl rfl rfl rfl rfl rfl ⟨rfl, rfl, rfl, rfl, rfl⟩ rfl rfl rfl rfl rfl (by kernel_rfl) Try.func10 (by kernel_rfl)
    (of_decide_eq_true (by kernel_rfl)) (by unfold Func.isWrapper; first | (rw [if_pos (by decide +kernel)]; kernel_rfl) | (rw [if_neg (by decide +kernel)]; exact ⟨rfl, rfl⟩))
    (fun os started H enc _ => lifted os started H enc)

/-- ████ THE STATEMENT ████ -/
theorem proved : Rows.CombBackSaid :=
  over
#print axioms proved
end Go.Proofs.Ytanfkolcoaofdaa.combBack
