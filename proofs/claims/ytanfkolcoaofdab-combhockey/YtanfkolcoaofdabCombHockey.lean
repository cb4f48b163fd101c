/-
  'Rows.CombHockeySaid' is proved: the hockey-stick identity of binomial coefficients, and n over k times n+1 is n+1 over k+1 times k+1. No condition.
  The frame of this proof was written by the kit's proof-skeleton.mjs.
-/
import Derived.Test.YtanfkolcoaofdabRows
import Derived.Test.YtanfkolcoaofdabWithin
import Derived.Test.YtanfkolcoaofdabCombWays
import Derived.Deep.LoopGhost
import Derived.WalkKit
import Derived.ProofKit
import Derived.ChangeOld
import Derived.Below
import Derived.OpenShut
import Derived.ShutString
namespace Go.Proofs.Ytanfkolcoaofdab.combHockey
open Go.ChangeShapes Go.WideShapes Go.ChangeAt Go.RowKit
open Go.ChangeMaps (open_string shut_string)
set_option linter.unusedVariables false      -- a walk need not use every 'w<i>' (that an integer argument fits its kind)

theorem own : ownKnob Try.prog.godebug = none := by kernel_rfl

open Binom
theorem b3015 : binom 30 15 = 155117520 := by
  have e : ∀ n k b c : Nat, k ≤ n → binom n k = b → b * (n - k) = (k + 1) * c → binom n (k + 1) = c := by
    intro n k b c h hb hc
    have := Binom.step h
    rw [hb, hc] at this
    exact (Nat.eq_of_mul_eq_mul_left (by omega) this).symm
  have e0 := zero_right 30
  have e1 := e 30 0 _ 30 (by decide) e0 (by decide)
  have e2 := e 30 1 _ 435 (by decide) e1 (by decide)
  have e3 := e 30 2 _ 4060 (by decide) e2 (by decide)
  have e4 := e 30 3 _ 27405 (by decide) e3 (by decide)
  have e5 := e 30 4 _ 142506 (by decide) e4 (by decide)
  have e6 := e 30 5 _ 593775 (by decide) e5 (by decide)
  have e7 := e 30 6 _ 2035800 (by decide) e6 (by decide)
  have e8 := e 30 7 _ 5852925 (by decide) e7 (by decide)
  have e9 := e 30 8 _ 14307150 (by decide) e8 (by decide)
  have e10 := e 30 9 _ 30045015 (by decide) e9 (by decide)
  have e11 := e 30 10 _ 54627300 (by decide) e10 (by decide)
  have e12 := e 30 11 _ 86493225 (by decide) e11 (by decide)
  have e13 := e 30 12 _ 119759850 (by decide) e12 (by decide)
  have e14 := e 30 13 _ 145422675 (by decide) e13 (by decide)
  exact e 30 14 _ 155117520 (by decide) e14 (by decide)

/-! ### STEP 1: THE WALK: the Go text returns true. 'Grown w w'': the world has at most new blocks (Derived/RowKit3.lean). Part the cases AHEAD of 'go_enter' where a test parts the walk; take each callee by a contract of your own. -/
set_option maxRecDepth 100000 in
set_option maxHeartbeats 2000000 in
theorem walk (a0 : Int) (a1 : Int) (w0 : (Lit.int .i64 a0).wf = true) (w1 : (Lit.int .i64 a1).wf = true) (w : World) :
    Calls Try.prog 3 #[.int .i64 a0, .int .i64 a1] w fun e w' => e = .returned (.bool true) ∧ Below w.heap.size w w' := by
  have b0 := wf_i64 w0
  have b1 := wf_i64 w1
  have d0 := withI_bd a0 30 (by omega)
  have C0 := ways_ok 30 15 (by omega) (by omega) w
  rw [b3015] at C0
  have C0 := Lib.hid C0
  go_enter Try.func3, Try.ntmps3
  go_wp2_with fail
  refine C0.out.mono ?_
  rintro e v1 ⟨rfl, rfl⟩
  clear C0
  go_wp2_with fail
  refine (within_int _ _ _ b0 (by omega) (by omega)).mono ?_
  rintro e v1 ⟨rfl, rfl⟩
  generalize withI a0 30 = n at *
  obtain ⟨n, rfl⟩ := Int.eq_ofNat_of_zero_le d0.1
  have hn : n < 30 := by omega
  clear d0
  have d1 := withI_bd a1 ((n : Int) + 1) (by omega)
  go_wp2_with fail
  refine (within_int _ _ _ b1 (by omega) (by omega)).mono ?_
  rintro e v1 ⟨rfl, rfl⟩
  generalize withI a1 ((n : Int) + 1) = k at *
  obtain ⟨k, rfl⟩ := Int.eq_ofNat_of_zero_le d1.1
  have hk : k ≤ n := by omega
  clear d1
  have C1 := Lib.hid (fun m (h1 : m ≤ 30) (h2 : k ≤ m) => ways_ok m k h1 h2)
  have C2x := ways_ok (n + 1) (k + 1) (by omega) (by omega)
  rw [show ((n + 1 : Nat) : Int) = (n : Int) + 1 from by omega, show ((k + 1 : Nat) : Int) = (k : Int) + 1 from by omega] at C2x
  have C2 := Lib.hid C2x
  have HS := Lib.hid (hockey k)
  have HM := Lib.hid (fun m (h : m ≤ 30) => le_max k h)
  clear C2x
  go_wp2
  go_loopg [7, 8] (n + 1 - k) (fun g z i wr => wr = w ∧ ∃ j : Nat, j + g = n + 1 - k ∧ i = .int .i64 ((k : Int) + j) ∧ z = .int .i64 (binom (k + j) (k + 1) : Nat))
  case atStart => exact ⟨rfl, 0, by omega, by go_num, by rw [Nat.add_zero, big k (k + 1) (by omega)]; rfl⟩
  case round =>
    obtain ⟨rfl, j, hj0, rfl, rfl⟩ := hrel
    have hj : j ≤ n + 1 - k := by omega
    have HJ := Lib.hid hj0
    clear hj0
    have hq := le_max (k + 1) (show k + j ≤ 30 by omega)
    by_cases hlt : j < n + 1 - k
    · have hp := HM.out (k + j) (by omega)
      have e1 := succ_succ (k + j) k
      have D := C1.out (k + j) (by omega) (by omega) wr
      rw [show ((k + j : Nat) : Int) = (k : Int) + j from by omega] at D
      have D := Lib.hid D
      have E1 := Lib.hid e1
      clear e1
      generalize binom (k + j) (k + 1) = q at *
      generalize binom (k + j) k = p at *
      have t1 : (k : Int) + j ≤ n := by omega
      go_wp2_with fail
      refine D.out.mono ?_
      rintro e v1 ⟨rfl, rfl⟩
      go_wp2
      go_roundg (n + 1 - k - (j + 1))
      case measure => have := HJ.out; omega
      case rel => exact ⟨rfl, j + 1, by omega, by go_num, by rw [show k + (j + 1) = k + j + 1 from rfl, E1.out]; go_num⟩
    · have ej : k + j = n + 1 := by omega
      have t1 : (n : Int) < (k : Int) + j := by omega
      have D := C1.out n (by omega) (by omega) wr
      have D := Lib.hid D
      have ab := absorb n k
      have hp := HM.out n (by omega)
      rw [ej] at hq ⊢
      clear ej
      have hx : (n + 1) * binom n k ≤ 30 * 1073741824 := Nat.mul_le_mul (by omega) hp
      generalize binom (n + 1) (k + 1) = q at *
      generalize binom n k = p at *
      obtain ⟨x, hx0⟩ : ∃ x : Nat, (n + 1) * p = x := ⟨_, rfl⟩
      rw [hx0] at hx
      have e1 : (p : Int) * ((n : Int) + 1) = (x : Int) := by rw [← hx0, Int.natCast_mul, Int.mul_comm]; rfl
      have e2 : (q : Int) * ((k : Int) + 1) = (x : Int) := by rw [← hx0, ← ab, Int.natCast_mul, Int.mul_comm]; rfl
      clear ab hx0
      go_wp2_with fail
      refine (C2.out _).mono ?_
      rintro e v1 ⟨rfl, rfl⟩
      go_wp2_with fail
      refine D.out.mono ?_
      rintro e v1 ⟨rfl, rfl⟩
      go_wp2
      go_ret
      exact ⟨rfl, Below.refl _ _⟩

/-! ### THE ROW's STEP: WRITTEN OUT: LEAVE IT -/
set_option maxRecDepth 100000 in
theorem lifted (os : Os) (started : os.Started) (H : Type) (enc : TypeId × Value → H) :
    ReturnsInHanded {} Try.checked os 3 .any (Rows.combHockeySpec.pre6 enc Try.prog Try.f3 Rows.combHockeyRow.domain false) (Rows.combHockeySpec.post enc Try.prog Try.f3 false true false false) := by
  refine returnsInHanded_of_change (C := Try.checked) own started (by kernel_rfl) Try.func3
    (ChangeSpec.witness6 (enc := enc) (C := Try.checked) false ⟨#[], #[.int .i64 0, .int .i64 0], []⟩ 8 (by kernel_rfl) (by kernel_rfl) (by kernel_rfl) (by kernel_rfl)) ?_
  intro W base args ds gs before hval0 hW hcnd _
  have hval : ∀ (j : Nat) t v, Try.f3.params[j]? = some t → args[j]? = some v → Value.okWide Try.prog W .any base t v := hval0
  have hW' := hW
  obtain ⟨p, q, hA0, hV, rfl, hfz, hnd⟩ := hW
  have hA : DataW.TrodAll enc Try.prog W 0 (fun _ => true) true Try.f3.params.toList args.toList ds p := hA0
  rw [Try.params3] at hA hval
  obtain ⟨v0, vs0, d0, ds0, p0, q0, hargs, rfl, rfl, h0, r0⟩ := trodAll_cons hA
  obtain ⟨v1, vs1, d1, ds1, p1, q1, rfl, rfl, rfl, h1, r1⟩ := trodAll_cons r0
  obtain ⟨rfl, rfl, rfl⟩ := trodAll_nil r1
  obtain rfl : args = #[v0, v1] := by cases args; simp_all
  obtain ⟨rfl, rfl⟩ := trodVars_none hV
  obtain ⟨a0, rfl, rfl, rfl, w0⟩ := open_int Try.underlying3 (hval 0 3 v0 rfl rfl) h0
  obtain ⟨a1, rfl, rfl, rfl, w1⟩ := open_int Try.underlying3 (hval 1 3 v1 rfl rfl) h1
  clear hA0 hval0
  simp only [List.append_nil] at hW'
  refine (walk a0 a1 w0 w1 W).mono fun e W' ⟨he, hg⟩ => ?_
  subst he
  exact ⟨_, rfl, _, _, _, [], _, [], hW', (trodAll_cons_mk (shut_bool Try.underlying4 _) trodAll_mk0), (trodAll_cons_mk (shut_int Try.underlying3 w0) (trodAll_cons_mk (shut_int Try.underlying3 w1) trodAll_mk0)), rfl, hg.frame _, fun h => by cases h⟩

theorem over : Rows.combHockeyRow.holds Try.pinned (OpenSpec.ofChange Rows.combHockeySpec) :=
  OpenClaim.holds_of_wide 3 Try.f3 rfl rfl rfl rfl rfl rfl rfl ⟨rfl, rfl, rfl, rfl, rfl⟩ rfl rfl rfl rfl rfl (by kernel_rfl) Try.func3 (by kernel_rfl)
    (of_decide_eq_true (by kernel_rfl)) (by unfold Func.isWrapper; first | (rw [if_pos (by decide +kernel)]; kernel_rfl) | (rw [if_neg (by decide +kernel)]; exact ⟨rfl, rfl⟩))
    (fun os started H enc _ => lifted os started H enc)

/-- ████ THE STATEMENT ████ -/
theorem proved : Rows.CombHockeySaid :=
  over
#print axioms proved
end Go.Proofs.Ytanfkolcoaofdab.combHockey
