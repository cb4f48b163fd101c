/-
  'Rows.GateCountSaid' is proved: an item that is sampled at a level stands for 2^level items, and by a greater threshold it stands for no fewer. No condition.
  The frame of this proof was written by the kit's proof-skeleton.mjs.
-/
import Derived.Test.YtelehdnjioocmaaRows
import Derived.Test.YtelehdnjioocmaaWithin
import Derived.Test.YtelehdnjioocmaaGate
import Derived.WalkKit
import Derived.ProofKit
import Derived.ChangeOld
import Derived.Below
import Derived.OpenShut
import Derived.ShutString
namespace Go.Proofs.Ytelehdnjioocmaa.gateCount
open Go.ChangeShapes Go.WideShapes Go.ChangeAt Go.RowKit
open Go.ChangeMaps (open_string shut_string)
set_option linter.unusedVariables false      -- a walk need not use every 'w<i>' (that an integer argument fits its kind)

theorem own : ownKnob Try.prog.godebug = none := by kernel_rfl

theorem many_level (n k : Nat) (hk : k ≤ 20) : manyOf n (two56 - keptAt k) = n * 2 ^ k := by
  have h1 : keptAt k ≤ two56 := keptAt_le k
  have h2 := keptAt_pos k
  have h : 2 ^ k * keptAt k = two56 := by
    unfold keptAt
    rw [← Nat.pow_add, show k + (56 - k) = 56 from by omega]
    rfl
  unfold manyOf
  rw [Nat.sub_sub_self h1, Nat.mul_comm two56]
  rw [← h, ← Nat.mul_assoc, Nat.mul_div_cancel _ h2]
theorem many_mono (n a b : Nat) (h : a ≤ b) (hb : b < two56) : manyOf n a ≤ manyOf n b := by
  unfold manyOf
  exact Nat.div_le_div_left (by omega) (by omega)
theorem many_zero (n : Nat) : manyOf n 0 = n := by
  unfold manyOf
  rw [Nat.sub_zero, Nat.mul_div_cancel_left _ (by decide)]
theorem many_le (n a : Nat) (hn : n ≤ 1000000) (ha : a + 1073741824 ≤ two56) : manyOf n a ≤ 4611686018427387904 := by
  have h1 : manyOf n a ≤ two56 * n / 1073741824 := by
    unfold manyOf
    exact Nat.div_le_div_left (by omega) (by decide)
  have h2 : two56 * n / 1073741824 = 67108864 * n := by
    rw [show two56 = 67108864 * 1073741824 from rfl, Nat.mul_right_comm, Nat.mul_div_cancel _ (by decide)]
  omega

/-! ### STEP 1: THE WALK: the Go text returns true. 'Grown w w'': the world has at most new blocks (Derived/RowKit3.lean). Part the cases AHEAD of 'go_enter' where a test parts the walk; take each callee by a contract of your own. -/
set_option maxRecDepth 100000 in
set_option maxHeartbeats 1000000 in
theorem walk (a0 : Int) (a1 : Int) (a2 : Int) (a3 : Int) (w0 : (Lit.int .i64 a0).wf = true) (w1 : (Lit.int .i64 a1).wf = true) (w2 : (Lit.int .i64 a2).wf = true) (w3 : (Lit.int .i64 a3).wf = true) (w : World) :
    Calls Try.prog 8 #[.int .i64 a0, .int .i64 a1, .int .i64 a2, .int .i64 a3] w fun e w' => e = .returned (.bool true) ∧ Below w.heap.size w w' := by
  have b0 := wf_i64 w0
  have b1 := wf_i64 w1
  have b2 := wf_i64 w2
  have b3 := wf_i64 w3
  have d0 := withI_bd a0 1000000 (by omega)
  have d1 := withI_bd a1 21 (by omega)
  have d2 := withI_bd a2 72057592964186112 (by omega)
  have P1 := count_ok 3 36028797018963968 (by omega) (by omega) (by decide +kernel) w
  rw [show ((manyOf 3 36028797018963968 : Nat) : Int) = 6 from by decide +kernel] at P1
  have P1 := Lib.hid P1
  go_enter Try.func8, Try.ntmps8
  go_wp2_with fail
  refine P1.out.mono ?_
  rintro e v1 ⟨rfl, hb1⟩
  go_wp2_with fail
  refine (within_int _ _ _ b0 (by omega) (by omega)).mono ?_
  rintro e v3 ⟨rfl, rfl⟩
  go_wp2_with fail
  refine (within_int _ _ _ b1 (by omega) (by omega)).mono ?_
  rintro e v3 ⟨rfl, rfl⟩
  go_wp2_with fail
  refine (within_int _ _ _ b2 (by omega) (by omega)).mono ?_
  rintro e v3 ⟨rfl, rfl⟩
  generalize withI a0 1000000 = n at *
  generalize withI a1 21 = k at *
  generalize withI a2 72057592964186112 = th at *
  obtain ⟨n, rfl⟩ := Int.eq_ofNat_of_zero_le d0.1
  obtain ⟨k, rfl⟩ := Int.eq_ofNat_of_zero_le d1.1
  obtain ⟨th, rfl⟩ := Int.eq_ofNat_of_zero_le d2.1
  have hn : n < 1000000 := by omega
  have hk : k ≤ 20 := by omega
  have ht : th < 72057592964186112 := by omega
  clear d0 d1 d2 P1
  have e7 : 2 ^ k ≤ 2 ^ 20 := Nat.pow_le_pow_right (by decide) hk
  have h9 : n * 2 ^ k ≤ 1000000 * 2 ^ 20 := Nat.mul_le_mul (by omega) e7
  have C1 := Lib.hid (fun w => level_ok k hk w)
  have q1 := many_level n k hk
  have q2 := keptAt_pos k
  have q3 := keptAt_le k
  have C2 := fun w => count_ok n (two56 - keptAt k) (by omega) (by have := two56_val; omega) (by rw [q1]; omega) w
  rw [q1] at C2
  have hsh : wrap64 ((n : Int) * 2 ^ k) = ((n * 2 ^ k : Nat) : Int) := by
    have e : (n : Int) * 2 ^ k = ((n * 2 ^ k : Nat) : Int) := by
      rw [Int.natCast_mul, Int.natCast_pow]; rfl
    rw [e]
    generalize n * 2 ^ k = p at *
    unfold wrap64
    omega
  generalize n * 2 ^ k = p at *
  generalize hL : two56 - keptAt k = L at *
  have C2 := Lib.hid C2
  clear q1 q2 q3 hL
  have C3 := Lib.hid (fun w => count_ok n th (by omega) (by omega) (many_le n th (by omega) (by have := two56_val; omega)) w)
  have d3 := withI_bd a3 (72057592964186112 - (th : Int)) (by omega)
  have r1 := many_zero n
  have r2 := many_mono n 0 th (by omega) (by have := two56_val; omega)
  rw [r1] at r2
  go_wp2_with fail
  refine (C1.out _).mono ?_
  rintro e v3 ⟨rfl, rfl⟩
  go_wp2_with fail
  refine (C2.out _).mono ?_
  rintro e v3 ⟨rfl, hb2⟩
  go_wp2_with fail
  refine (C3.out _).mono ?_
  rintro e v4 ⟨rfl, hb3⟩
  have hw := below_on (below_on hb1 hb2) hb3
  clear hb1 hb2 hb3 C1 C2 C3
  go_wp2_with fail
  refine (within_int _ _ _ b3 (by omega) (by omega)).mono ?_
  rintro e v3 ⟨rfl, rfl⟩
  generalize withI a3 (72057592964186112 - (th : Int)) = U at *
  obtain ⟨u, hu⟩ : ∃ u : Nat, (th : Int) + U = (u : Int) := ⟨((th : Int) + U).toNat, by omega⟩
  have hu1 : th ≤ u := by omega
  have hu2 : u < 72057592964186112 := by omega
  have C4 := Lib.hid (fun w => count_ok n u (by omega) (by omega) (many_le n u (by omega) (by have := two56_val; omega)) w)
  have r3 := many_mono n th u hu1 (by have := two56_val; omega)
  have r4 := many_le n u (by omega) (by have := two56_val; omega)
  generalize manyOf n th = A at *
  generalize manyOf n u = B at *
  clear r1 d3
  go_wp2_with fail
  refine (C4.out _).mono ?_
  rintro e v5 ⟨rfl, hb4⟩
  have hw := below_on hw hb4
  clear hb4 C4
  go_wp2
  go_ret
  exact ⟨ret_bool (by simp), hw⟩

/-! ### THE ROW's STEP: WRITTEN OUT: LEAVE IT -/
set_option maxRecDepth 100000 in
theorem lifted (os : Os) (started : os.Started) (H : Type) (enc : TypeId × Value → H) :
    ReturnsInHanded {} Try.checked os 8 .any (Rows.gateCountSpec.pre6 enc Try.prog Try.f8 Rows.gateCountRow.domain false) (Rows.gateCountSpec.post enc Try.prog Try.f8 false true false false) := by
  refine returnsInHanded_of_change (C := Try.checked) own started (by kernel_rfl) Try.func8
    (ChangeSpec.witness6 (enc := enc) (C := Try.checked) false ⟨#[], #[.int .i64 0, .int .i64 0, .int .i64 0, .int .i64 0], []⟩ 8 (by kernel_rfl) (by kernel_rfl) (by kernel_rfl) (by kernel_rfl)) ?_
  intro W base args ds gs before hval0 hW hcnd _
  have hval : ∀ (j : Nat) t v, Try.f8.params[j]? = some t → args[j]? = some v → Value.okWide Try.prog W .any base t v := hval0
  have hW' := hW
  obtain ⟨p, q, hA0, hV, rfl, hfz, hnd⟩ := hW
  have hA : DataW.TrodAll enc Try.prog W 0 (fun _ => true) true Try.f8.params.toList args.toList ds p := hA0
  rw [Try.params8] at hA hval
  obtain ⟨v0, vs0, d0, ds0, p0, q0, hargs, rfl, rfl, h0, r0⟩ := trodAll_cons hA
  obtain ⟨v1, vs1, d1, ds1, p1, q1, rfl, rfl, rfl, h1, r1⟩ := trodAll_cons r0
  obtain ⟨v2, vs2, d2, ds2, p2, q2, rfl, rfl, rfl, h2, r2⟩ := trodAll_cons r1
  obtain ⟨v3, vs3, d3, ds3, p3, q3, rfl, rfl, rfl, h3, r3⟩ := trodAll_cons r2
  obtain ⟨rfl, rfl, rfl⟩ := trodAll_nil r3
  obtain rfl : args = #[v0, v1, v2, v3] := by cases args; simp_all
  obtain ⟨rfl, rfl⟩ := trodVars_none hV
  obtain ⟨a0, rfl, rfl, rfl, w0⟩ := open_int Try.underlying3 (hval 0 3 v0 rfl rfl) h0
  obtain ⟨a1, rfl, rfl, rfl, w1⟩ := open_int Try.underlying3 (hval 1 3 v1 rfl rfl) h1
  obtain ⟨a2, rfl, rfl, rfl, w2⟩ := open_int Try.underlying3 (hval 2 3 v2 rfl rfl) h2
  obtain ⟨a3, rfl, rfl, rfl, w3⟩ := open_int Try.underlying3 (hval 3 3 v3 rfl rfl) h3
  clear hA0 hval0
  simp only [List.append_nil] at hW'
  refine (walk a0 a1 a2 a3 w0 w1 w2 w3 W).mono fun e W' ⟨he, hg⟩ => ?_
  subst he
  exact ⟨_, rfl, _, _, _, [], _, [], hW', (trodAll_cons_mk (shut_bool Try.underlying4 _) trodAll_mk0), (trodAll_cons_mk (shut_int Try.underlying3 w0) (trodAll_cons_mk (shut_int Try.underlying3 w1) (trodAll_cons_mk (shut_int Try.underlying3 w2) (trodAll_cons_mk (shut_int Try.underlying3 w3) trodAll_mk0)))), rfl, hg.frame _, fun h => by cases h⟩

theorem over : Rows.gateCountRow.holds Try.pinned (OpenSpec.ofChange Rows.gateCountSpec) :=
  OpenClaim.holds_of_wide 8 Try.f8 rfl rfl rfl rfl rfl rfl rfl ⟨rfl, rfl, rfl, rfl, rfl⟩ rfl rfl rfl rfl rfl (by kernel_rfl) Try.func8 (by kernel_rfl)
    (of_decide_eq_true (by kernel_rfl)) (by unfold Func.isWrapper; first | (rw [if_pos (by decide +kernel)]; kernel_rfl) | (rw [if_neg (by decide +kernel)]; exact ⟨rfl, rfl⟩))
    (fun os started H enc _ => lifted os started H enc)

/-- ████ THE STATEMENT ████ -/
theorem proved : Rows.GateCountSaid :=
  over
#print axioms proved
end Go.Proofs.Ytelehdnjioocmaa.gateCount
