/-
  'Rows.CombPascalSaid' is proved: Pascal's rule, Vandermonde's identity, symmetry and the sum of a row of binomial coefficients. No condition.
  The frame of this proof was written by the kit's proof-skeleton.mjs.
-/
import Derived.Test.YtanfkolcoaofdaaRows
import Derived.Test.YtanfkolcoaofdaaWithin
import Derived.Test.YtanfkolcoaofdaaCombWays
import Derived.Test.YtanfkolcoaofdaaRefGateMath
import Derived.Deep.LoopGhost
import Derived.WalkKit
import Derived.ProofKit
import Derived.ChangeOld
import Derived.Below
import Derived.OpenShut
import Derived.ShutString
namespace Go.Proofs.Ytanfkolcoaofdaa.combPascal
open Go.ChangeShapes Go.WideShapes Go.ChangeAt Go.RowKit
open Go.ChangeMaps (open_string shut_string)
set_option linter.unusedVariables false      -- a walk need not use every 'w<i>' (that an integer argument fits its kind)

theorem own : ownKnob Try.prog.godebug = none := by kernel_rfl

open Binom
set_option maxRecDepth 100000 in
set_option maxHeartbeats 1000000 in
theorem waysf (n k : Nat) (hn : n ≤ 30) (w : World) :
    Calls Try.prog 39 #[.int .i64 n, .int .i64 k] w fun e w' => e = .returned (.int .i64 (binom n k : Nat)) ∧ w = w' := by
  by_cases h : k ≤ n
  · have C := Lib.hid (ways_ok n k hn h)
    go_enter Try.func39, Try.ntmps39
    go_wp2_with fail
    refine (C.out _).mono ?_
    rintro e w1 ⟨rfl, rfl⟩
    go_wp2
    go_ret
    exact ⟨rfl, rfl⟩
  · rw [big n k (by omega)]
    have h' : n < k := by omega
    go_enter Try.func39, Try.ntmps39
    go_wp2
    go_ret
    exact ⟨rfl, rfl⟩
theorem b52 : binom 5 2 = 10 := by decide

/-! ### STEP 1: THE WALK: the Go text returns true. 'Grown w w'': the world has at most new blocks (Derived/RowKit3.lean). Part the cases AHEAD of 'go_enter' where a test parts the walk; take each callee by a contract of your own. -/
set_option maxRecDepth 100000 in
set_option maxHeartbeats 2000000 in
theorem walk (a0 : Int) (a1 : Int) (a2 : Int) (w0 : (Lit.int .i64 a0).wf = true) (w1 : (Lit.int .i64 a1).wf = true) (w2 : (Lit.int .i64 a2).wf = true) (w : World) :
    Calls Try.prog 9 #[.int .i64 a0, .int .i64 a1, .int .i64 a2] w fun e w' => e = .returned (.bool true) ∧ Below w.heap.size w w' := by
  have b0 := wf_i64 w0
  have b1 := wf_i64 w1
  have b2 := wf_i64 w2
  have d0 := withI_bd a0 16 (by omega)
  have d1 := withI_bd a1 15 (by omega)
  have C0 := ways_ok 5 2 (by omega) (by omega) w
  rw [b52] at C0
  have C0 := Lib.hid C0
  go_enter Try.func9, Try.ntmps9
  go_wp2_with fail
  refine C0.out.mono ?_
  rintro e v1 ⟨rfl, rfl⟩
  clear C0
  go_wp2_with fail
  refine (within_int _ _ _ b0 (by omega) (by omega)).mono ?_
  rintro e v1 ⟨rfl, rfl⟩
  generalize withI a0 16 = n at *
  obtain ⟨n, rfl⟩ := Int.eq_ofNat_of_zero_le d0.1
  have hn : n < 16 := by omega
  clear d0
  go_wp2_with fail
  refine (within_int _ _ _ b1 (by omega) (by omega)).mono ?_
  rintro e v1 ⟨rfl, rfl⟩
  generalize withI a1 15 = m at *
  obtain ⟨m, rfl⟩ := Int.eq_ofNat_of_zero_le d1.1
  have hm : m < 15 := by omega
  clear d1
  have d2 := withI_bd a2 ((n : Int) + m + 1) (by omega)
  go_wp2_with fail
  refine (within_int _ _ _ b2 (by omega) (by omega)).mono ?_
  rintro e v1 ⟨rfl, rfl⟩
  generalize withI a2 ((n : Int) + m + 1) = k at *
  obtain ⟨k, rfl⟩ := Int.eq_ofNat_of_zero_le d2.1
  have hk : k ≤ n + m := by omega
  clear d2
  have HV := Lib.hid (vandermonde n m k)
  have HB := Lib.hid (le_max k (show n + m ≤ 30 by omega))
  go_wp2
  go_loopg [10, 40] (k + 1) (fun g z i wr => wr = w ∧ ∃ j : Nat, j + g = k + 1 ∧ i = .int .i64 (j : Nat) ∧ z = .int .i64 (sumTo (fun i => binom n i * binom m (k - i)) j : Nat))
  case atStart => exact ⟨rfl, 0, by omega, by go_num, rfl⟩
  case round =>
    obtain ⟨rfl, j, hj0, rfl, rfl⟩ := hrel
    have hj : j ≤ k + 1 := by omega
    have HJ := Lib.hid hj0
    clear hj0
    by_cases hlt : j < k + 1
    · have hs := sumTo_mono (fun i => binom n i * binom m (k - i)) (show j + 1 ≤ k + 1 by omega)
      rw [HV.out] at hs
      have hs2 := Nat.le_trans hs HB.out
      rw [sumTo] at hs2
      have E1 := Lib.hid (show sumTo (fun i => binom n i * binom m (k - i)) (j + 1) = sumTo (fun i => binom n i * binom m (k - i)) j + binom n j * binom m (k - j) from rfl)
      have D1 := Lib.hid (waysf n j (by omega))
      have D2x := waysf m (k - j) (by omega)
      rw [show ((k - j : Nat) : Int) = (k : Int) - j from by omega] at D2x
      have D2 := Lib.hid D2x
      clear D2x hs
      generalize sumTo (fun i => binom n i * binom m (k - i)) j = s at *
      generalize binom n j = p at *
      generalize binom m (k - j) = q at *
      have e1 : (p : Int) * (q : Int) = ((p * q : Nat) : Int) := by rw [Int.natCast_mul]
      generalize p * q = x at *
      go_wp2_with fail
      refine (D1.out _).mono ?_
      rintro e v1 ⟨rfl, rfl⟩
      go_wp2_with fail
      refine (D2.out _).mono ?_
      rintro e v1 ⟨rfl, rfl⟩
      go_wp2
      go_roundg (k + 1 - (j + 1))
      case measure => have := HJ.out; omega
      case rel => exact ⟨rfl, j + 1, by omega, by go_num, by rw [E1.out]; go_num⟩
    · obtain rfl : j = k + 1 := by omega
      rw [HV.out]
      have D1x := ways_ok (n + m) k (by omega) hk
      have D2x := ways_ok (n + m) (n + m - k) (by omega) (by omega)
      rw [symm (n + m) k hk] at D2x
      rw [show ((n + m - k : Nat) : Int) = (n : Int) + m - k from by omega] at D2x
      rw [show ((n + m : Nat) : Int) = (n : Int) + m from by omega] at D1x D2x
      have D1 := Lib.hid D1x
      have D2 := Lib.hid D2x
      have hb := HB.out
      have HR := Lib.hid (row_sum n)
      have HP := Lib.hid (Nat.pow_le_pow_right (n := 2) (by decide) (show n ≤ 15 by omega))
      have HW := Lib.hid (fun i => waysf n i (by omega))
      have D3x := waysf (n + 1) (k + 1) (by omega)
      have D4x := waysf n (k + 1) (by omega)
      rw [succ_succ] at D3x
      rw [show ((n + 1 : Nat) : Int) = (n : Int) + 1 from by omega, show ((k + 1 : Nat) : Int) = (k : Int) + 1 from by omega] at D3x
      rw [show ((k + 1 : Nat) : Int) = (k : Int) + 1 from by omega] at D4x
      have D3 := Lib.hid D3x
      have D4 := Lib.hid D4x
      have D5 := Lib.hid (waysf n k (by omega))
      have hu := le_max k (show n ≤ 30 by omega)
      have hv := le_max (k + 1) (show n ≤ 30 by omega)
      clear D1x D2x D3x D4x
      generalize binom (n + m) k = q at *
      generalize binom n k = u at *
      generalize binom n (k + 1) = v at *
      go_wp2_with fail
      refine (D1.out _).mono ?_
      rintro e v1 ⟨rfl, rfl⟩
      go_wp2_with fail
      refine (D2.out _).mono ?_
      rintro e v1 ⟨rfl, rfl⟩
      go_wp2
      clear D1 D2
      obtain ⟨wo, hwo⟩ : ∃ wo, wo = wr := ⟨_, rfl⟩
      subst hwo
      go_loopg [16, 95] (n + 1) (fun g z i wr => wr = wo ∧ ∃ j : Nat, j + g = n + 1 ∧ i = .int .i64 (j : Nat) ∧ z = .int .i64 (sumTo (fun i => binom n i) j : Nat))
      case atStart => exact ⟨rfl, 0, by omega, by go_num, rfl⟩
      case round =>
        obtain ⟨rfl, i, hj0, rfl, rfl⟩ := hrel
        have hj : i ≤ n + 1 := by omega
        have HJ := Lib.hid hj0
        clear hj0
        by_cases hlt : i < n + 1
        · have hs := sumTo_mono (fun i => binom n i) (show i + 1 ≤ n + 1 by omega)
          rw [HR.out] at hs
          have hs2 := Nat.le_trans hs HP.out
          rw [sumTo] at hs2
          have E1 := Lib.hid (show sumTo (fun i => binom n i) (i + 1) = sumTo (fun i => binom n i) i + binom n i from rfl)
          have D1 := Lib.hid (HW.out i)
          clear hs
          generalize sumTo (fun i => binom n i) i = s at *
          generalize binom n i = p at *
          have e15 : 2 ^ 15 = 32768 := by decide
          rw [e15] at hs2
          clear e15
          go_wp2_with fail
          refine (D1.out _).mono ?_
          rintro e v1 ⟨rfl, rfl⟩
          go_wp2
          go_roundg (n + 1 - (i + 1))
          case measure => have := HJ.out; omega
          case rel => exact ⟨rfl, i + 1, by omega, by go_num, by rw [E1.out]; go_num⟩
        · obtain rfl : i = n + 1 := by omega
          rw [HR.out]
          have e15 := HP.out
          rw [show 2 ^ 15 = 32768 from by decide] at e15
          have e6 := pow64 n (by omega)
          have hsh : ((2 ^ n : Nat) : Int) = 2 ^ n := by simp
          go_wp2_with fail
          refine (D3.out _).mono ?_
          rintro e v1 ⟨rfl, rfl⟩
          go_wp2_with fail
          refine (D5.out _).mono ?_
          rintro e v1 ⟨rfl, rfl⟩
          go_wp2_with fail
          refine (D4.out _).mono ?_
          rintro e v1 ⟨rfl, rfl⟩
          go_wp2
          go_ret
          exact ⟨rfl, Below.refl _ _⟩

/-! ### THE ROW's STEP: WRITTEN OUT: LEAVE IT -/
set_option maxRecDepth 100000 in
theorem lifted (os : Os) (started : os.Started) (H : Type) (enc : TypeId × Value → H) :
    ReturnsInHanded {} Try.checked os 9 .any (Rows.combPascalSpec.pre6 enc Try.prog Try.f9 Rows.combPascalRow.domain false) (Rows.combPascalSpec.post enc Try.prog Try.f9 false true false false) := by
  refine returnsInHanded_of_change (C := Try.checked) own started (by kernel_rfl) Try.func9
    (ChangeSpec.witness6 (enc := enc) (C := Try.checked) false ⟨#[], #[.int .i64 0, .int .i64 0, .int .i64 0], []⟩ 8 (by kernel_rfl) (by kernel_rfl) (by kernel_rfl) (by kernel_rfl)) ?_
  intro W base args ds gs before hval0 hW hcnd _
  have hval : ∀ (j : Nat) t v, Try.f9.params[j]? = some t → args[j]? = some v → Value.okWide Try.prog W .any base t v := hval0
  have hW' := hW
  obtain ⟨p, q, hA0, hV, rfl, hfz, hnd⟩ := hW
  have hA : DataW.TrodAll enc Try.prog W 0 (fun _ => true) true Try.f9.params.toList args.toList ds p := hA0
  rw [Try.params9] at hA hval
  obtain ⟨v0, vs0, d0, ds0, p0, q0, hargs, rfl, rfl, h0, r0⟩ := trodAll_cons hA
  obtain ⟨v1, vs1, d1, ds1, p1, q1, rfl, rfl, rfl, h1, r1⟩ := trodAll_cons r0
  obtain ⟨v2, vs2, d2, ds2, p2, q2, rfl, rfl, rfl, h2, r2⟩ := trodAll_cons r1
  obtain ⟨rfl, rfl, rfl⟩ := trodAll_nil r2
  obtain rfl : args = #[v0, v1, v2] := by cases args; simp_all
  obtain ⟨rfl, rfl⟩ := trodVars_none hV
  obtain ⟨a0, rfl, rfl, rfl, w0⟩ := open_int Try.underlying3 (hval 0 3 v0 rfl rfl) h0
  obtain ⟨a1, rfl, rfl, rfl, w1⟩ := open_int Try.underlying3 (hval 1 3 v1 rfl rfl) h1
  obtain ⟨a2, rfl, rfl, rfl, w2⟩ := open_int Try.underlying3 (hval 2 3 v2 rfl rfl) h2
  clear hA0 hval0
  simp only [List.append_nil] at hW'
  refine (walk a0 a1 a2 w0 w1 w2 W).mono fun e W' ⟨he, hg⟩ => ?_
  subst he
  exact ⟨_, rfl, _, _, _, [], _, [], hW', (trodAll_cons_mk (shut_bool Try.underlying4 _) trodAll_mk0), (trodAll_cons_mk (shut_int Try.underlying3 w0) (trodAll_cons_mk (shut_int Try.underlying3 w1) (trodAll_cons_mk (shut_int Try.underlying3 w2) trodAll_mk0))), rfl, hg.frame _, fun h => by cases h⟩

theorem over : Rows.combPascalRow.holds Try.pinned (OpenSpec.ofChange Rows.combPascalSpec) :=
  OpenClaim.holds_of_wide 9 Try.f9 rfl rfl rfl rfl rfl rfl rfl ⟨rfl, rfl, rfl, rfl, rfl⟩ rfl rfl rfl rfl rfl (by kernel_rfl) Try.func9 (by kernel_rfl)
    (of_decide_eq_true (by kernel_rfl)) (by unfold Func.isWrapper; first | (rw [if_pos (by decide +kernel)]; kernel_rfl) | (rw [if_neg (by decide +kernel)]; exact ⟨rfl, rfl⟩))
    (fun os started H enc _ => lifted os started H enc)

/-- ████ THE STATEMENT ████ -/
theorem proved : Rows.CombPascalSaid :=
  over
#print axioms proved
end Go.Proofs.Ytanfkolcoaofdaa.combPascal
