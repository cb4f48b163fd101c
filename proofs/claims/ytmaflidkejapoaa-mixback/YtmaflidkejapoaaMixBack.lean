/-
  'Rows.MixBackSaid' is proved: Mix and Unmix are inverse to each other and Mix is injective, for all numbers of 64 bits. No condition.
  The frame of this proof was written by the kit's proof-skeleton.mjs.
-/
import Derived.Test.YtmaflidkejapoaaRows
import Derived.Test.YtmaflidkejapoaaMix
import Derived.WalkKit
import Derived.ProofKit
import Derived.OpenShut
import Derived.ShutString
namespace Go.Proofs.Ytmaflidkejapoaa.mixBack
open Go.ChangeShapes Go.WideShapes Go.ChangeAt Go.RowKit
open Go.ChangeMaps (open_string shut_string)
set_option linter.unusedVariables false      -- a walk need not use every 'w<i>' (that an integer argument fits its kind)

theorem own : ownKnob Try.prog.godebug = none := by kernel_rfl


/-! ### STEP 1: THE WALK: the Go text returns true. 'Grown w w'': the world has at most new blocks (Derived/RowKit3.lean). Part the cases AHEAD of 'go_enter' where a test parts the walk; take each callee by a contract of your own. -/
theorem walk (a0 : Int) (a1 : Int) (w0 : (Lit.int .u64 a0).wf = true) (w1 : (Lit.int .u64 a1).wf = true) (w : World) :
    Calls Try.prog 4 #[.int .u64 a0, .int .u64 a1] w fun e w' => e = .returned (.bool true) ∧ Grown w w' := by
  obtain ⟨x, rfl, hx⟩ := wf_u64 w0
  obtain ⟨y, rfl, hy⟩ := wf_u64 w1
  have bx : 0 ≤ (x : Int) ∧ (x : Int) < 18446744073709551616 := by have : x < 18446744073709551616 := hx; omega
  have b_y : 0 ≤ (y : Int) ∧ (y : Int) < 18446744073709551616 := by have : y < 18446744073709551616 := hy; omega
  have t1 : (mixI 0 != 0) = false := by decide +kernel
  have t2 : (mixI 1 == mixI 2) = false := by decide +kernel
  have t3 : (unmixI (mixI x) == x) = true := by rw [unmixI_mixI _ bx.1 bx.2]; simp
  have t4 : (mixI (unmixI x) == x) = true := by rw [mixI_unmixI _ bx.1 bx.2]; simp
  by_cases hxy : x = y
  · subst hxy
    have t5 : (mixI (x : Int) == mixI (x : Int)) = true := by simp
    clear hx hy w0 w1
    go_enter Try.func4, Try.ntmps4
    go_wp2_with (first | (go_at_call 11; refine (mix_int _ _ ?_ ?_).mono ?_; (first | omega | exact (unmixI_bd _).1); (first | omega | exact (unmixI_bd _).2); rintro e w' ⟨rfl, rfl⟩) | (go_at_call 13; refine (unmix_int _ _ ?_ ?_).mono ?_; (first | omega | exact (mixI_bd _).1); (first | omega | exact (mixI_bd _).2); rintro e w' ⟨rfl, rfl⟩))
    go_ret
    exact ⟨rfl, by repeat (first | exact Grown.refl _ | apply Grown.drew | apply Grown.alloc)⟩
  · have t5 : (mixI (x : Int) == mixI (y : Int)) = false := beq_eq_false_iff_ne.2 (fun h => hxy (by have := mixI_inj _ _ bx b_y h; omega))
    have t6 : (x == y) = false := by simpa using hxy
    have t7 : ((x : Int) == (y : Int)) = false := by simp; omega
    clear hx hy w0 w1 hxy
    go_enter Try.func4, Try.ntmps4
    go_wp2_with (first | (go_at_call 11; refine (mix_int _ _ ?_ ?_).mono ?_; (first | omega | exact (unmixI_bd _).1); (first | omega | exact (unmixI_bd _).2); rintro e w' ⟨rfl, rfl⟩) | (go_at_call 13; refine (unmix_int _ _ ?_ ?_).mono ?_; (first | omega | exact (mixI_bd _).1); (first | omega | exact (mixI_bd _).2); rintro e w' ⟨rfl, rfl⟩))
    go_ret
    exact ⟨rfl, by repeat (first | exact Grown.refl _ | apply Grown.drew | apply Grown.alloc)⟩

/-! ### THE ROW's STEP: WRITTEN OUT: LEAVE IT -/
set_option maxRecDepth 100000 in
theorem lifted (os : Os) (started : os.Started) (H : Type) (enc : TypeId × Value → H) :
    ReturnsInHanded {} Try.checked os 4 .any (Rows.mixBackSpec.pre6 enc Try.prog Try.f4 Rows.mixBackRow.domain false) (Rows.mixBackSpec.post enc Try.prog Try.f4 false true false false) := by
  refine returnsInHanded_of_change (C := Try.checked) own started (by kernel_rfl) Try.func4
    (ChangeSpec.witness6 (enc := enc) (C := Try.checked) false ⟨#[], #[.int .u64 0, .int .u64 0], []⟩ 8 (by kernel_rfl) (by kernel_rfl) (by kernel_rfl) (by kernel_rfl)) ?_
  intro W base args ds gs before hval0 hW hcnd _
  have hval : ∀ (j : Nat) t v, Try.f4.params[j]? = some t → args[j]? = some v → Value.okWide Try.prog W .any base t v := hval0
  have hW' := hW
  obtain ⟨p, q, hA0, hV, rfl, hfz, hnd⟩ := hW
  have hA : DataW.TrodAll enc Try.prog W 0 (fun _ => true) true Try.f4.params.toList args.toList ds p := hA0
  rw [Try.params4] at hA hval
  obtain ⟨v0, vs0, d0, ds0, p0, q0, hargs, rfl, rfl, h0, r0⟩ := trodAll_cons hA
  obtain ⟨v1, vs1, d1, ds1, p1, q1, rfl, rfl, rfl, h1, r1⟩ := trodAll_cons r0
  obtain ⟨rfl, rfl, rfl⟩ := trodAll_nil r1
  obtain rfl : args = #[v0, v1] := by cases args; simp_all
  obtain ⟨rfl, rfl⟩ := trodVars_none hV
  obtain ⟨a0, rfl, rfl, rfl, w0⟩ := open_int Try.underlying22 (hval 0 22 v0 rfl rfl) h0
  obtain ⟨a1, rfl, rfl, rfl, w1⟩ := open_int Try.underlying22 (hval 1 22 v1 rfl rfl) h1
  clear hA0 hval0
  simp only [List.append_nil] at hW'
  refine (walk a0 a1 w0 w1 W).mono fun e W' ⟨he, hg⟩ => ?_
  subst he
  exact ⟨_, rfl, post_of_same (pa := []) (pv := []) hW' (fun _ _ _ => (trodAll_cons_mk (shut_bool Try.underlying4 _) trodAll_mk0)) (fun sp _ => (trodAll_cons_mk (shut_int Try.underlying22 w0) (trodAll_cons_mk (shut_int Try.underlying22 w1) trodAll_mk0))) (fun _ _ => rfl) rfl
    (hg.frame _) hg.2.1 (ok_one (by kernel_rfl) rfl (okWide_bool_mk Try.underlying4 _))⟩

theorem over : Rows.mixBackRow.holds Try.pinned (OpenSpec.ofChange Rows.mixBackSpec) :=
  OpenClaim.holds_of_wide 4 Try.f4 rfl rfl rfl rfl rfl rfl rfl ⟨rfl, rfl, rfl, rfl, rfl⟩ rfl rfl rfl rfl rfl (by kernel_rfl) Try.func4 (by kernel_rfl)
    (of_decide_eq_true (by kernel_rfl)) (by unfold Func.isWrapper; first | (rw [if_pos (by decide +kernel)]; kernel_rfl) | (rw [if_neg (by decide +kernel)]; exact ⟨rfl, rfl⟩))
    (fun os started H enc _ => lifted os started H enc)

/-- ████ THE STATEMENT ████ -/
theorem proved : Rows.MixBackSaid :=
  over
#print axioms proved
end Go.Proofs.Ytmaflidkejapoaa.mixBack
