/-
  'Rows.DigitFirstSaid' is proved: the first number of the order at a rank is the rank divided by the number of orders of the others. No condition.
  The frame of this proof was written by the kit's proof-skeleton.mjs.
-/
import Derived.Test.YtanfkolcoaofdaaRows
import Derived.Test.YtanfkolcoaofdaaWithin
import Derived.Test.YtanfkolcoaofdaaDigitOrder
import Derived.Test.YtanfkolcoaofdaaRefFact
import Derived.Test.YtanfkolcoaofdaaEqualInts
import Derived.Test.YtanfkolcoaofdaaLit
import Derived.Deep.QuietTactic
import Derived.BigQuiet
import Derived.Deep.RegionWith
import Derived.WalkKit
import Derived.ProofKit
import Derived.ChangeOld
import Derived.Below
import Derived.OpenShut
import Derived.ShutString
namespace Go.Proofs.Ytanfkolcoaofdaa.digitFirst
open Go.ChangeShapes Go.WideShapes Go.ChangeAt Go.RowKit
open Go.ChangeMaps (open_string shut_string)
set_option linter.unusedVariables false      -- a walk need not use every 'w<i>' (that an integer argument fits its kind)

theorem own : ownKnob Try.prog.godebug = none := by kernel_rfl

open Digit
theorem first_order : orderOf 3 2 = [1, 0, 2] := by decide +kernel
theorem f3 : 2 < fact 3 := by decide

/-! ### STEP 1: THE WALK: the Go text returns true. 'Grown w w'': the world has at most new blocks (Derived/RowKit3.lean). Part the cases AHEAD of 'go_enter' where a test parts the walk; take each callee by a contract of your own. -/
set_option maxRecDepth 100000 in
set_option maxHeartbeats 2000000 in
theorem walk (a0 : Int) (a1 : Int) (w0 : (Lit.int .i64 a0).wf = true) (w1 : (Lit.int .i64 a1).wf = true) (w : World) :
    Calls Try.prog 13 #[.int .i64 a0, .int .i64 a1] w fun e w' => e = .returned (.bool true) ∧ Below w.heap.size w w' := by
  have b0 := wf_i64 w0
  have b1 := wf_i64 w1
  have d0 := withI_bd a0 12 (by omega)
  have C0 := order_ok 3 2 (by omega) f3 w
  rw [first_order] at C0
  have C0 := Lib.hid C0
  go_enter Try.func13, Try.ntmps13
  go_wp2_with fail
  refine C0.out.mono ?_
  rintro e v1 ⟨s1, rfl, hO1, hb1⟩
  clear C0
  obtain ⟨a1', cap1, rfl, hT1⟩ := hO1.tab
  have E1 := Lib.hid (equal_ints a1' (some ⟨v1.heap.size, 0, none⟩) 3 cap1 3 3 [1, 0, 2] [1, 0, 2] (v1.alloc (.cells #[.int .i64 1, .int .i64 0, .int .i64 2] 3))
    (hT1.below ((Below.refl _ _).alloc (Nat.le_refl _) _)) (tab_lit _ _ 1 3 ([(1 : Int), 0, 2].map iC) #[.int .i64 1, .int .i64 0, .int .i64 2] rfl rfl (rows_of iC_len _) (by decide) _ rfl) true (by simp))
  have HB1 := Lib.hid (below_on hb1 ((Below.refl v1.heap.size v1).alloc (Nat.le_refl _) (.cells #[.int .i64 1, .int .i64 0, .int .i64 2] 3)))
  clear hO1 hT1 hb1
  go_wp2_with fail
  refine E1.out.mono ?_
  rintro e v2 ⟨rfl, hb2⟩
  have HB2 := Lib.hid (below_on HB1.out hb2)
  clear E1 HB1 hb2
  go_wp2_with fail
  refine (within_int _ _ _ b0 (by omega) (by omega)).mono ?_
  rintro e v3 ⟨rfl, rfl⟩
  generalize withI a0 12 = n at *
  obtain ⟨m, rfl⟩ := Int.eq_ofNat_of_zero_le d0.1
  have hm : m < 12 := by omega
  clear d0
  obtain ⟨k, hk⟩ : ∃ k : Nat, 1 + (m : Int) = (k : Int) := ⟨1 + m, by omega⟩
  have hkm : k = m + 1 := by omega
  have F1x := refFact_any (m + 1) (by omega)
  have F2 := Lib.hid (refFact_any m (by omega))
  have hB1 := fact_pos (m + 1)
  have hB2 : fact (m + 1) ≤ 479001600 := fact_max (by omega)
  have hC1 := fact_pos m
  have hC2 : fact m ≤ 479001600 := fact_max (by omega)
  have HS := Lib.hid (fun i (hi : i < fact (m + 1)) => order_ok (m + 1) i (by omega) hi)
  have HN := Lib.hid (fun i (hi : i < fact (m + 1)) => order_first (n := m) hi)
  have HL := Lib.hid (fun i (hi : i < fact (m + 1)) => (orderOf_ok (n := m + 1) hi).1)
  rw [← hkm] at F1x HS HN HL hB1 hB2
  have F1 := Lib.hid F1x
  have HKM := Lib.hid hkm
  have hk12 : k ≤ 12 := by omega
  have hk0 : 0 < k := by omega
  clear F1x hkm
  generalize fact k = B at *
  generalize fact m = G at *
  go_wp2_with fail
  refine (F1.out _).mono ?_
  rintro e v3 ⟨rfl, rfl⟩
  have d1 := withI_bd a1 (B : Int) (by omega)
  go_wp2_with fail
  refine (within_int _ _ _ b1 (by omega) (by omega)).mono ?_
  rintro e v4 ⟨rfl, rfl⟩
  generalize withI a1 (B : Int) = i at *
  obtain ⟨i, rfl⟩ := Int.eq_ofNat_of_zero_le d1.1
  have hi : i < B := by omega
  clear d1 F1
  have S1 := Lib.hid (HS.out i hi)
  have hx := HN.out i hi
  have hl := HL.out i hi
  generalize orderOf k i = X at *
  clear HS HN HL
  go_wp2_with fail
  refine (S1.out _).mono ?_
  rintro e v4 ⟨s4, rfl, hO4, hb4⟩
  obtain ⟨a4, cap4, rfl, hT4⟩ := hO4.tab
  have l4 : (X.map iC).length = k := by rw [List.length_map]; exact hl
  rw [l4] at hT4 ⊢
  obtain ⟨bb1, o1, ha1, hbs1, c1⟩ := hT4.one (Below.refl _ _) (map_get hx)
  rw [Nat.add_zero] at c1
  have HB4 := Lib.hid (below_on HB2.out hb4)
  subst ha1
  have e2 : ((i : Nat) : Int).tdiv ((G : Nat) : Int) = ((i / G : Nat) : Int) := rfl
  have hqle : i / G ≤ i := Nat.div_le_self _ _
  generalize i / G = q at *
  have e3 : (k : Int) - 1 = (m : Int) := by have := HKM.out; omega
  have e4 : IntKind.i64.wrap ((k : Int) - 1) = (m : Int) := by rw [e3, IntKind.wrap_i64]; omega
  have t1 : ((k : Int) == (k : Int)) = true := by simp
  have t2 : ((q : Int) == (q : Int)) = true := by simp
  clear hO4 hb4 hT4 l4 S1 HB2 hx hl hk
  go_wp2
  go_quiet (first | (go_at_call 20; exact Calls.quiet_of_same (F2.out _)))
  go_wp2
  go_ret
  exact ⟨rfl, below_on HB4.out (below_drewN (Below.refl _ _) _)⟩

/-! ### THE ROW's STEP: WRITTEN OUT: LEAVE IT -/
set_option maxRecDepth 100000 in
theorem lifted (os : Os) (started : os.Started) (H : Type) (enc : TypeId × Value → H) :
    ReturnsInHanded {} Try.checked os 13 .any (Rows.digitFirstSpec.pre6 enc Try.prog Try.f13 Rows.digitFirstRow.domain false) (Rows.digitFirstSpec.post enc Try.prog Try.f13 false true false false) := by
  refine returnsInHanded_of_change (C := Try.checked) own started (by kernel_rfl) Try.func13
    (ChangeSpec.witness6 (enc := enc) (C := Try.checked) false ⟨#[], #[.int .i64 0, .int .i64 0], []⟩ 8 (by kernel_rfl) (by kernel_rfl) (by kernel_rfl) (by kernel_rfl)) ?_
  intro W base args ds gs before hval0 hW hcnd _
  have hval : ∀ (j : Nat) t v, Try.f13.params[j]? = some t → args[j]? = some v → Value.okWide Try.prog W .any base t v := hval0
  have hW' := hW
  obtain ⟨p, q, hA0, hV, rfl, hfz, hnd⟩ := hW
  have hA : DataW.TrodAll enc Try.prog W 0 (fun _ => true) true Try.f13.params.toList args.toList ds p := hA0
  rw [Try.params13] at hA hval
  obtain ⟨v0, vs0, d0, ds0, p0, q0, hargs, rfl, rfl, h0, r0⟩ := trodAll_cons hA
  obtain ⟨v1, vs1, d1, ds1, p1, q1, rfl, rfl, rfl, h1, r1⟩ := trodAll_cons r0
  obtain ⟨rfl, rfl, rfl⟩ := trodAll_nil r1
  obtain rfl : args = #[v0, v1] := by cases args; simp_all
  obtain ⟨rfl, rfl⟩ := trodVars_none hV
  obtain ⟨a0, rfl, rfl, rfl, w0⟩ := open_int Try.underlying3 (hval 0 3 v0 rfl rfl) h0
  obtain ⟨a1, rfl, rfl, rfl, w1⟩ := open_int Try.underlying3 (hval 1 3 v1 rfl rfl) h1
  clear hA0 hval0
  simp only [List.append_nil] at hW'
  refine (walk a0 a1 w0 w1 W).mono fun e W' ⟨he, hg⟩ => ?_
  subst he
  exact ⟨_, rfl, _, _, _, [], _, [], hW', (trodAll_cons_mk (shut_bool Try.underlying4 _) trodAll_mk0), (trodAll_cons_mk (shut_int Try.underlying3 w0) (trodAll_cons_mk (shut_int Try.underlying3 w1) trodAll_mk0)), rfl, hg.frame _, fun h => by cases h⟩

theorem over : Rows.digitFirstRow.holds Try.pinned (OpenSpec.ofChange Rows.digitFirstSpec) :=
  OpenClaim.holds_of_wide 13 Try.f13 rfl rfl rfl rfl rfl rfl rfl ⟨rfl, rfl, rfl, rfl, rfl⟩ rfl rfl rfl rfl rfl (by kernel_rfl) Try.func13 (by kernel_rfl)
    (of_decide_eq_true (by kernel_rfl)) (by unfold Func.isWrapper; first | (rw [if_pos (by decide +kernel)]; kernel_rfl) | (rw [if_neg (by decide +kernel)]; exact ⟨rfl, rfl⟩))
    (fun os started H enc _ => lifted os started H enc)

/-- ████ THE STATEMENT ████ -/
theorem proved : Rows.DigitFirstSaid :=
  over
#print axioms proved
end Go.Proofs.Ytanfkolcoaofdaa.digitFirst
