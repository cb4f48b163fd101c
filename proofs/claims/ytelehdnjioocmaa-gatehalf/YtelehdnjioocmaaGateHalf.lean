/-
  'Rows.GateHalfSaid' is proved: one of 2^n is level n: Part(k, k * 2^n) and Level(n) are the same threshold. No condition.
  The frame of this proof was written by the kit's proof-skeleton.mjs.
-/
import Derived.Test.YtelehdnjioocmaaRows
import Derived.Test.YtelehdnjioocmaaWithin
import Derived.Test.YtelehdnjioocmaaGate
import Derived.WalkKit
import Derived.ProofKit
import Derived.ChangeOld
import Derived.Below
import Derived.OpenShut
import Derived.ShutString
namespace Go.Proofs.Ytelehdnjioocmaa.gateHalf
open Go.ChangeShapes Go.WideShapes Go.ChangeAt Go.RowKit
open Go.ChangeMaps (open_string shut_string)
set_option linter.unusedVariables false      -- a walk need not use every 'w<i>' (that an integer argument fits its kind)

theorem own : ownKnob Try.prog.godebug = none := by kernel_rfl

theorem half_few (n k : Nat) (hn : n ≤ 20) (hk : 1 ≤ k) : fewOf k (k * 2 ^ n) = keptAt n := by
  have hp : 0 < 2 ^ n := Nat.pow_pos (by decide)
  have hd : 0 < k * 2 ^ n := Nat.mul_pos hk hp
  have e : two56 * k = keptAt n * (k * 2 ^ n) := by
    have h : 2 ^ n * keptAt n = two56 := by
      unfold keptAt
      rw [← Nat.pow_add, show n + (56 - n) = 56 from by omega]
      rfl
    rw [← h, Nat.mul_comm (2 ^ n), Nat.mul_assoc, Nat.mul_comm (2 ^ n) k]
  have h1 := fewOf_iff k (k * 2 ^ n) hd (keptAt n)
  have h2 := fewOf_iff k (k * 2 ^ n) hd (keptAt n - 1)
  have h3 := keptAt_pos n
  rw [e] at h1 h2
  have h4 : (keptAt n - 1) * (k * 2 ^ n) < keptAt n * (k * 2 ^ n) := Nat.mul_lt_mul_of_pos_right (by omega) hd
  have h5 := h2.1 h4
  omega

/-! ### STEP 1: THE WALK: the Go text returns true. 'Grown w w'': the world has at most new blocks (Derived/RowKit3.lean). Part the cases AHEAD of 'go_enter' where a test parts the walk; take each callee by a contract of your own. -/
set_option maxRecDepth 100000 in
set_option maxHeartbeats 1000000 in
theorem walk (a0 : Int) (a1 : Int) (w0 : (Lit.int .i64 a0).wf = true) (w1 : (Lit.int .i64 a1).wf = true) (w : World) :
    Calls Try.prog 11 #[.int .i64 a0, .int .i64 a1] w fun e w' => e = .returned (.bool true) ∧ Below w.heap.size w w' := by
  have b0 := wf_i64 w0
  have b1 := wf_i64 w1
  have d0 := withI_bd a0 21 (by omega)
  have d1 := withI_bd a1 1000 (by omega)
  have P1 := part_ok 1 1 (by omega) (by omega) (by omega) w
  rw [show ((two56 - fewOf 1 1 : Nat) : Int) = 0 from by decide +kernel] at P1
  have P2 := Lib.hid (fun w => part_ok 1 4 (by omega) (by omega) (by omega) w)
  rw [show ((two56 - fewOf 1 4 : Nat) : Int) = 54043195528445952 from by decide +kernel] at P2
  have P1 := Lib.hid P1
  go_enter Try.func11, Try.ntmps11
  go_wp2_with fail
  refine P1.out.mono ?_
  rintro e v1 ⟨rfl, hb1⟩
  go_wp2_with fail
  refine (P2.out _).mono ?_
  rintro e v2 ⟨rfl, hb2⟩
  go_wp2_with fail
  refine (within_int _ _ _ b0 (by omega) (by omega)).mono ?_
  rintro e v3 ⟨rfl, rfl⟩
  go_wp2_with fail
  refine (within_int _ _ _ b1 (by omega) (by omega)).mono ?_
  rintro e v3 ⟨rfl, rfl⟩
  generalize withI a0 21 = n at *
  generalize withI a1 1000 = k at *
  obtain ⟨n, rfl⟩ := Int.eq_ofNat_of_zero_le d0.1
  obtain ⟨k, rfl⟩ := Int.eq_ofNat_of_zero_le d1.1
  have hn : n ≤ 20 := by omega
  have hk : k < 1000 := by omega
  clear d0 d1 P1 P2
  have hw := below_on hb1 hb2
  clear hb1 hb2
  have e7 : 2 ^ n ≤ 2 ^ 20 := Nat.pow_le_pow_right (by decide) hn
  have e8 : 0 < 2 ^ n := Nat.pow_pos (by decide)
  have hh := half_few n (k + 1) hn (by omega)
  have h9 : (k + 1) * 2 ^ n ≤ 1000 * 2 ^ 20 := Nat.mul_le_mul (by omega) e7
  have h10 : (k + 1) * 1 ≤ (k + 1) * 2 ^ n := Nat.mul_le_mul_left _ e8
  have C1 := Lib.hid (fun w => level_ok n hn w)
  have C2 := fun w => part_ok (k + 1) ((k + 1) * 2 ^ n) (by omega) (by omega) (by omega) w
  rw [hh] at C2
  have hsh : wrap64 ((1 + (k : Int)) * 2 ^ n) = (((k + 1) * 2 ^ n : Nat) : Int) := by
    have e : (1 + (k : Int)) * 2 ^ n = (((k + 1) * 2 ^ n : Nat) : Int) := by
      rw [Int.natCast_mul, Int.natCast_pow, Int.natCast_add, Int.add_comm]; rfl
    rw [e]
    generalize (k + 1) * 2 ^ n = p at *
    unfold wrap64
    omega
  rw [show (((k + 1 : Nat)) : Int) = 1 + (k : Int) from by omega] at C2
  generalize (k + 1) * 2 ^ n = p at *
  have C2 := Lib.hid C2
  generalize ((two56 - keptAt n : Nat) : Int) = T at *
  clear hh
  go_wp2_with fail
  refine (C1.out _).mono ?_
  rintro e v3 ⟨rfl, rfl⟩
  go_wp2_with fail
  refine (C2.out _).mono ?_
  rintro e v3 ⟨rfl, hb⟩
  go_wp2
  go_ret
  exact ⟨ret_bool (by simp), below_on hw hb⟩

/-! ### THE ROW's STEP: WRITTEN OUT: LEAVE IT -/
set_option maxRecDepth 100000 in
theorem lifted (os : Os) (started : os.Started) (H : Type) (enc : TypeId × Value → H) :
    ReturnsInHanded {} Try.checked os 11 .any (Rows.gateHalfSpec.pre6 enc Try.prog Try.f11 Rows.gateHalfRow.domain false) (Rows.gateHalfSpec.post enc Try.prog Try.f11 false true false false) := by
  refine returnsInHanded_of_change (C := Try.checked) own started (by kernel_rfl) Try.func11
    (ChangeSpec.witness6 (enc := enc) (C := Try.checked) false ⟨#[], #[.int .i64 0, .int .i64 0], []⟩ 8 (by kernel_rfl) (by kernel_rfl) (by kernel_rfl) (by kernel_rfl)) ?_
  intro W base args ds gs before hval0 hW hcnd _
  have hval : ∀ (j : Nat) t v, Try.f11.params[j]? = some t → args[j]? = some v → Value.okWide Try.prog W .any base t v := hval0
  have hW' := hW
  obtain ⟨p, q, hA0, hV, rfl, hfz, hnd⟩ := hW
  have hA : DataW.TrodAll enc Try.prog W 0 (fun _ => true) true Try.f11.params.toList args.toList ds p := hA0
  rw [Try.params11] at hA hval
  obtain ⟨v0, vs0, d0, ds0, p0, q0, hargs, rfl, rfl, h0, r0⟩ := trodAll_cons hA
  obtain ⟨v1, vs1, d1, ds1, p1, q1, rfl, rfl, rfl, h1, r1⟩ := trodAll_cons r0
  obtain ⟨rfl, rfl, rfl⟩ := trodAll_nil r1
  obtain rfl : args = #[v0, v1] := by cases args; simp_all
  obtain ⟨rfl, rfl⟩ := trodVars_none hV
  obtain ⟨a0, rfl, rfl, rfl, w0⟩ := open_int Try.underlying3 (hval 0 3 v0 rfl rfl) h0
  obtain ⟨a1, rfl, rfl, rfl, w1⟩ := open_int Try.underlying3 (hval 1 3 v1 rfl rfl) h1
  clear hA0 hval0
  simp only [List.append_nil] at hW'
  refine (walk a0 a1 w0 w1 W).mono fun e W' ⟨he, hg⟩ => ?_
  subst he
  exact ⟨_, rfl, _, _, _, [], _, [], hW', (trodAll_cons_mk (shut_bool Try.underlying4 _) trodAll_mk0), (trodAll_cons_mk (shut_int Try.underlying3 w0) (trodAll_cons_mk (shut_int Try.underlying3 w1) trodAll_mk0)), rfl, hg.frame _, fun h => by cases h⟩

theorem over : Rows.gateHalfRow.holds Try.pinned (OpenSpec.ofChange Rows.gateHalfSpec) :=
  OpenClaim.holds_of_wide 11 Try.f11 rfl rfl rfl rfl rfl rfl rfl ⟨rfl, rfl, rfl, rfl, rfl⟩ rfl rfl rfl rfl rfl (by kernel_rfl) Try.func11 (by kernel_rfl)
    (of_decide_eq_true (by kernel_rfl)) (by unfold Func.isWrapper; first | (rw [if_pos (by decide +kernel)]; kernel_rfl) | (rw [if_neg (by decide +kernel)]; exact ⟨rfl, rfl⟩))
    (fun os started H enc _ => lifted os started H enc)

/-- ████ THE STATEMENT ████ -/
theorem proved : Rows.GateHalfSaid :=
  over
#print axioms proved
end Go.Proofs.Ytelehdnjioocmaa.gateHalf
