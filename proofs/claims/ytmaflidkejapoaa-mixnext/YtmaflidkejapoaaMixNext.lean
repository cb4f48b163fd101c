/-
  'Rows.MixNextSaid' is proved: the generator's state advances by a constant, and distinct states give distinct numbers. No condition.
  The frame of this proof was written by the kit's proof-skeleton.mjs.
-/
import Derived.Test.YtmaflidkejapoaaRows
import Derived.Test.YtmaflidkejapoaaMix
import Derived.Test.YtmaflidkejapoaaWithin
import Derived.Test.YtmaflidkejapoaaSetBool
import Derived.Lib.Hide
import Derived.WalkKit
import Derived.ProofKit
import Derived.ChangeOld
import Derived.Below
import Derived.OpenShut
import Derived.ShutString
namespace Go.Proofs.Ytmaflidkejapoaa.mixNext
open Go.ChangeShapes Go.WideShapes Go.ChangeAt Go.RowKit
open Go.ChangeMaps (open_string shut_string)
set_option linter.unusedVariables false      -- a walk need not use every 'w<i>' (that an integer argument fits its kind)

theorem own : ownKnob Try.prog.godebug = none := by kernel_rfl

open Go.Maps (Keyed int_keyed keyOf_int_mk)
theorem law : Keyed Try.prog 22 := int_keyed Try.underlying22
theorem zeroE (w : World) : (zeroValue 4).run Try.prog w = .ok (.bool false) w := by kernel_rfl
/-- the constant, kept behind a name -/
def G : Nat := 11400714819323198485
def GI : Nat := 17428512612931826493
/-- the state after j steps -/
def sN (x j : Nat) : Nat := (x + j * G) % MixMath.M
theorem sN_lt (x j : Nat) : sN x j < MixMath.M := Nat.mod_lt _ (by decide)
theorem sN_zero (x : Nat) (h : x < MixMath.M) : sN x 0 = x := by
  unfold sN; rw [Nat.zero_mul, Nat.add_zero, Nat.mod_eq_of_lt h]
theorem stepN_eq (x : Nat) : stepN x = (x + G) % MixMath.M := rfl
theorem sN_succ (x j : Nat) : stepN (sN x j) = sN x (j + 1) := by
  rw [stepN_eq]
  unfold sN
  rw [Nat.mod_add_mod, Nat.add_assoc, Nat.succ_mul]
theorem sN_inj (x i j : Nat) (hi : i < MixMath.M) (hj : j < MixMath.M) (h : sN x i = sN x j) : i = j := by
  have e : MixMath.mm G i = MixMath.mm G j := by
    unfold sN at h
    unfold MixMath.mm
    have hm : MixMath.M = 18446744073709551616 := rfl
    generalize i * G = a at *
    generalize j * G = b at *
    rw [hm] at *
    omega
  rw [← MixMath.mm_mm G GI i hi (by decide +kernel), ← MixMath.mm_mm G GI j hj (by decide +kernel), e]
/-- no number that is still to come stands in the set -/
def Free (x k : Nat) (S : Lit → Bool) : Prop := ∀ j, k < j → j ≤ 201 → S (.int .u64 (MixMath.mixN (sN x j) : Nat)) = false
theorem wf_mix (y : Nat) : (Lit.int .u64 (MixMath.mixN y : Nat)).wf = true := by
  have h : MixMath.mixN y < 18446744073709551616 := MixMath.mixN_lt _
  generalize MixMath.mixN y = z at *
  simp [Lit.wf, IntKind.min, IntKind.max, IntKind.bits, IntKind.signed]
  omega
theorem sN_eq (x j : Nat) : sN x j = (x + j * 11400714819323198485) % 18446744073709551616 := rfl
theorem t_walk (x k : Nat) (hx : x < MixMath.M) (hk : k < 1000) : (IntKind.u64.wrap ((sN x (k + 1) : Int) - (x : Int)) != IntKind.u64.wrap (((k : Int) + 1) * 11400714819323198485)) = false := by
  have hx' : x < 18446744073709551616 := hx
  have e : IntKind.u64.wrap ((sN x (k + 1) : Int) - (x : Int)) = IntKind.u64.wrap (((k : Int) + 1) * 11400714819323198485) := by
    rw [IntKind.wrap_u64, IntKind.wrap_u64, sN_eq]
    omega
  rw [e]
  simp
theorem free_next (x k : Nat) (S : Lit → Bool) (h : Free x k S) (hx : x < MixMath.M) : Free x (k + 1) (fun y => y.sameKey (.int .u64 (MixMath.mixN (sN x (k + 1)) : Nat)) || S y) := by
  intro j h1 h2
  show ((Lit.int .u64 (MixMath.mixN (sN x j) : Nat)).sameKey (.int .u64 (MixMath.mixN (sN x (k + 1)) : Nat)) || S _) = false
  rw [h j (by omega) h2, Bool.or_false]
  apply Go.Maps.sameKey_ne
  intro e
  have e1 : ((MixMath.mixN (sN x j) : Nat) : Int) = ((MixMath.mixN (sN x (k + 1)) : Nat) : Int) := by
    injection e
  have e2 := MixMath.mix_inj _ _ (sN_lt _ _) (sN_lt _ _) (Int.ofNat.inj e1)
  have hM : 1000 < MixMath.M := by decide
  have e3 := sN_inj x j (k + 1) (by omega) (by omega) e2
  omega


/-! ### STEP 1: THE WALK: the Go text returns true. 'Grown w w'': the world has at most new blocks (Derived/RowKit3.lean). Part the cases AHEAD of 'go_enter' where a test parts the walk; take each callee by a contract of your own. -/
theorem walk (a0 : Int) (a1 : Int) (w0 : (Lit.int .u64 a0).wf = true) (w1 : (Lit.int .i64 a1).wf = true) (w : World) :
    Calls Try.prog 5 #[.int .u64 a0, .int .i64 a1] w fun e w' => e = .returned (.bool true) ∧ Below w.heap.size w w' := by
  obtain ⟨x, rfl, hx⟩ := wf_u64 w0
  have b1 := wf_i64 w1
  have d1 := withI_bd a1 200 (by omega)
  have t1 : (stepI 0 != 11400714819323198485) = false := by decide +kernel
  have t2 : (mixI (stepI 0) == 0) = false := by decide +kernel
  have t3 : (mixI (stepI 0) != mixI (stepI 0)) = false := by simp
  have s0 := stepI_bd 0
  have hmm := @run_makeMap Try.prog
  go_enter Try.func5, Try.ntmps5
  go_wp2_with fail
  refine (next_int _ _ (by omega) (by omega)).mono ?_
  rintro e w' ⟨rfl, rfl⟩
  go_wp2_with fail
  refine (mix_int _ _ (by omega) (by omega)).mono ?_
  rintro e w' ⟨rfl, rfl⟩
  go_wp2_with fail
  refine (within_int _ _ _ b1 (by omega) (by omega)).mono ?_
  rintro e w' ⟨rfl, rfl⟩
  generalize withI a1 200 = n at *
  obtain ⟨n, rfl⟩ := Int.eq_ofNat_of_zero_le d1.1
  clear t1 t2 t3 s0
  go_wp2
  go_loopw [8, 33] (fun s i wr => ∃ k : Nat, k ≤ n + 1 ∧ i = .int .i64 k ∧ s = .int .u64 (sN x k : Nat) ∧ (∃ S, OwnsSet Try.prog 22 4 wr w.heap.size k S ∧ Free x k S) ∧ Below w.heap.size w wr) (fun _ i _ => n + 1 - (intOf i).toNat)
  case atStart => exact ⟨0, Nat.zero_le _, rfl, by rw [sN_zero x hx], ⟨_, ownsSet_made _ _ _ _, fun _ _ _ => rfl⟩, (Below.refl _ _).alloc (Nat.le_refl _) _⟩
  case round =>
    obtain ⟨k, hk, rfl, rfl, ⟨S, hS, hF⟩, hb⟩ := hrel
    by_cases hlt : k < n + 1
    · have hF' := hF (k + 1) (by omega) (by omega)
      have hlook := hS.look law Try.underlying32 Try.underlying4 (zeroE _) (keyOf_int_mk Try.underlying22 (wf_mix (sN x (k + 1)))) trivial
      rw [hF'] at hlook
      have HF := Lib.hid hF
      have ht := t_walk x k hx (by omega)
      clear hF hF'
      go_wp2_with fail
      refine (next_any _ (sN_lt _ _) _).mono ?_
      rw [sN_succ]
      rintro e w' ⟨rfl, rfl⟩
      go_wp2_with ((at_mapUpdate; refine wpList_setTrue _ rfl _ _ _ 32 rfl 22 4 law Try.underlying32 Try.underlying4 w.heap.size k S rfl hS (by unfold maxLen; omega) _ _ rfl rfl (keyOf_int_mk Try.underlying22 (wf_mix (sN x (k + 1)))) trivial ?_; intro w1 hS1 hg1))
      go_roundw
      case rel => exact ⟨k + 1, by omega, by go_num, rfl, ⟨_, hS1, free_next x k S HF.out hx⟩, hb.grown hg1 hb.size (fun j hj => by cases hj; exact Nat.le_refl _)⟩
      case measure => simp [intOf]; omega
    · go_wp2
      go_ret
      exact ⟨rfl, hb⟩

/-! ### THE ROW's STEP: WRITTEN OUT: LEAVE IT -/
set_option maxRecDepth 100000 in
theorem lifted (os : Os) (started : os.Started) (H : Type) (enc : TypeId × Value → H) :
    ReturnsInHanded {} Try.checked os 5 .any (Rows.mixNextSpec.pre6 enc Try.prog Try.f5 Rows.mixNextRow.domain false) (Rows.mixNextSpec.post enc Try.prog Try.f5 false true false false) := by
  refine returnsInHanded_of_change (C := Try.checked) own started (by kernel_rfl) Try.func5
    (ChangeSpec.witness6 (enc := enc) (C := Try.checked) false ⟨#[], #[.int .u64 0, .int .i64 0], []⟩ 8 (by kernel_rfl) (by kernel_rfl) (by kernel_rfl) (by kernel_rfl)) ?_
  intro W base args ds gs before hval0 hW hcnd _
  have hval : ∀ (j : Nat) t v, Try.f5.params[j]? = some t → args[j]? = some v → Value.okWide Try.prog W .any base t v := hval0
  have hW' := hW
  obtain ⟨p, q, hA0, hV, rfl, hfz, hnd⟩ := hW
  have hA : DataW.TrodAll enc Try.prog W 0 (fun _ => true) true Try.f5.params.toList args.toList ds p := hA0
  rw [Try.params5] at hA hval
  obtain ⟨v0, vs0, d0, ds0, p0, q0, hargs, rfl, rfl, h0, r0⟩ := trodAll_cons hA
  obtain ⟨v1, vs1, d1, ds1, p1, q1, rfl, rfl, rfl, h1, r1⟩ := trodAll_cons r0
  obtain ⟨rfl, rfl, rfl⟩ := trodAll_nil r1
  obtain rfl : args = #[v0, v1] := by cases args; simp_all
  obtain ⟨rfl, rfl⟩ := trodVars_none hV
  obtain ⟨a0, rfl, rfl, rfl, w0⟩ := open_int Try.underlying22 (hval 0 22 v0 rfl rfl) h0
  obtain ⟨a1, rfl, rfl, rfl, w1⟩ := open_int Try.underlying3 (hval 1 3 v1 rfl rfl) h1
  clear hA0 hval0
  simp only [List.append_nil] at hW'
  refine (walk a0 a1 w0 w1 W).mono fun e W' ⟨he, hg⟩ => ?_
  subst he
  exact ⟨_, rfl, _, _, _, [], _, [], hW', (trodAll_cons_mk (shut_bool Try.underlying4 _) trodAll_mk0), (trodAll_cons_mk (shut_int Try.underlying22 w0) (trodAll_cons_mk (shut_int Try.underlying3 w1) trodAll_mk0)), rfl, hg.frame _, fun h => by cases h⟩

theorem over : Rows.mixNextRow.holds Try.pinned (OpenSpec.ofChange Rows.mixNextSpec) :=
  OpenClaim.holds_of_wide 5 Try.f5 rfl rfl rfl rfl rfl rfl rfl ⟨rfl, rfl, rfl, rfl, rfl⟩ rfl rfl rfl rfl rfl (by kernel_rfl) Try.func5 (by kernel_rfl)
    (of_decide_eq_true (by kernel_rfl)) (by unfold Func.isWrapper; first | (rw [if_pos (by decide +kernel)]; kernel_rfl) | (rw [if_neg (by decide +kernel)]; exact ⟨rfl, rfl⟩))
    (fun os started H enc _ => lifted os started H enc)

/-- ████ THE STATEMENT ████ -/
theorem proved : Rows.MixNextSaid :=
  over
#print axioms proved
end Go.Proofs.Ytmaflidkejapoaa.mixNext
