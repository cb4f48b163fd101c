/-
  'Rows.GateLevelsSaid' is proved: each level keeps half of what the one ahead keeps, and of all ways in which a random value can begin just one is kept. No condition.
  The frame of this proof was written by the kit's proof-skeleton.mjs.
-/
import Derived.Test.YtelehdnjioocmaaRows
import Derived.Test.YtelehdnjioocmaaWithin
import Derived.Test.YtelehdnjioocmaaGateKeep
import Derived.Deep.LoopGhost
import Derived.WalkKit
import Derived.ProofKit
import Derived.ChangeOld
import Derived.Below
import Derived.OpenShut
import Derived.ShutString
namespace Go.Proofs.Ytelehdnjioocmaa.gateLevels
open Go.ChangeShapes Go.WideShapes Go.ChangeAt Go.RowKit
open Go.ChangeMaps (open_string shut_string)
set_option linter.unusedVariables false      -- a walk need not use every 'w<i>' (that an integer argument fits its kind)

theorem own : ownKnob Try.prog.godebug = none := by kernel_rfl

theorem last_only (n i K low : Nat) (hK : 2 ^ n * K = 72057594037927936) (hi : i < 2 ^ n) (hl : low < K) :
    i * K + low < 72057594037927936 ∧ i * K ≤ 72057594037927936 ∧ (72057594037927936 - K ≤ i * K + low ↔ i + 1 = 2 ^ n) := by
  generalize 2 ^ n = P at *
  have h1 : (i + 1) * K ≤ P * K := Nat.mul_le_mul_right _ hi
  rw [Nat.succ_mul] at h1
  refine ⟨by omega, by omega, ?_⟩
  constructor
  · intro h
    rcases Nat.lt_or_ge (i + 1) P with h2 | h2
    · have h3 : (i + 2) * K ≤ P * K := Nat.mul_le_mul_right _ h2
      rw [Nat.succ_mul, Nat.succ_mul] at h3
      omega
    · omega
  · intro h
    have h3 : (i + 1) * K = P * K := by rw [h]
    rw [Nat.succ_mul] at h3
    omega

/-! ### STEP 1: THE WALK: the Go text returns true. 'Grown w w'': the world has at most new blocks (Derived/RowKit3.lean). Part the cases AHEAD of 'go_enter' where a test parts the walk; take each callee by a contract of your own. -/
set_option maxRecDepth 100000 in
set_option maxHeartbeats 1000000 in
theorem walk (a0 : Int) (a1 : Int) (w0 : (Lit.int .i64 a0).wf = true) (w1 : (Lit.int .i64 a1).wf = true) (w : World) :
    Calls Try.prog 6 #[.int .i64 a0, .int .i64 a1] w fun e w' => e = .returned (.bool true) ∧ Below w.heap.size w w' := by
  have b0 := wf_i64 w0
  have b1 := wf_i64 w1
  have d0 := withI_bd a0 11 (by omega)
  have C0 := level_int 0 (by omega) (by omega) w
  rw [show ((two56 - keptAt (0 : Int).toNat : Nat) : Int) = 0 from by decide +kernel] at C0
  have C0 := Lib.hid C0
  go_enter Try.func6, Try.ntmps6
  go_wp2_with fail
  refine C0.out.mono ?_
  rintro e v1 ⟨rfl, rfl⟩
  go_wp2_with fail
  refine (within_int _ _ _ b0 (by omega) (by omega)).mono ?_
  rintro e v1 ⟨rfl, rfl⟩
  generalize withI a0 11 = n at *
  obtain ⟨n, rfl⟩ := Int.eq_ofNat_of_zero_le d0.1
  have hn : n ≤ 10 := by omega
  clear C0 d0
  have C1 := level_ok n (by omega) w
  have C2 := level_int ((n : Int) + 1) (by omega) (by omega) w
  rw [show ((n : Int) + 1).toNat = n + 1 from by omega] at C2
  have e1 := keptAt_succ n (by omega)
  have e2 := keptAt_le n
  have e3 := keptAt_pos (n + 1)
  have e4 : (72057594037927936 : Int) / 2 ^ n = ((keptAt n : Nat) : Int) := by
    rw [← keptAt_div n (by omega), Int.natCast_ediv, Int.natCast_pow]
    rfl
  have e5 : 2 ^ n * keptAt n = 72057594037927936 := by
    unfold keptAt
    rw [← Nat.pow_add, show n + (56 - n) = 56 from by omega]
  have e6 := pow64 n (by omega)
  have e7 : 2 ^ n ≤ 2 ^ 10 := Nat.pow_le_pow_right (by decide) hn
  have HL := Lib.hid (fun i low => last_only n i (keptAt n) low e5)
  rw [two56_val, show ((72057594037927936 - keptAt n : Nat) : Int) = 72057594037927936 - (keptAt n : Int) from by omega] at C1
  rw [two56_val, show ((72057594037927936 - keptAt (n + 1) : Nat) : Int) = 72057594037927936 - (keptAt (n + 1) : Int) from by omega] at C2
  generalize keptAt (n + 1) = K at *
  generalize keptAt n = L at *
  have e8 : L ≤ 2 * K := by omega
  have e9 : 2 * K ≤ L := by omega
  clear e1
  have C1 := Lib.hid C1
  have C2 := Lib.hid C2
  have hp1 : 0 < 2 ^ n := Nat.pow_pos (by decide)
  generalize hg : 2 ^ n = P at *
  have HG := Lib.hid hg
  clear hg e5
  have t1 : (2 * (72057594037927936 - (72057594037927936 - (K : Int))) != 72057594037927936 - (72057594037927936 - (L : Int))) = false := by simp; omega
  go_wp2_with fail
  refine C1.out.mono ?_
  rintro e v1 ⟨rfl, rfl⟩
  go_wp2_with fail
  refine C2.out.mono ?_
  rintro e v1 ⟨rfl, rfl⟩
  go_wp2_with fail
  have d1 := withI_bd a1 (L : Int) (by omega)
  refine (within_int _ _ _ b1 (by omega) (by omega)).mono ?_
  rintro e v1 ⟨rfl, rfl⟩
  generalize withI a1 (L : Int) = low at *
  obtain ⟨low, rfl⟩ := Int.eq_ofNat_of_zero_le d1.1
  have hl : low < L := by omega
  clear d1 C1 C2
  go_wp2
  rw [e6]
  go_loopg [11, 58] P (fun g k i wr => wr = w ∧ ∃ j : Nat, j + g = P ∧ i = .int .i64 j ∧ k = .int .i64 (if j = P then 1 else 0))
  case atStart => exact ⟨rfl, 0, by omega, rfl, by rw [if_neg (by omega)]⟩
  case round =>
    obtain ⟨rfl, j, hj0, rfl, rfl⟩ := hrel
    have hj : j ≤ P := by omega
    have HJ := Lib.hid hj0
    clear hj0
    by_cases hlt : j < P
    · obtain ⟨f1, f2, f3⟩ := HL.out j low hlt hl
      have f4 : (j : Int) * (L : Int) = ((j * L : Nat) : Int) := (Int.natCast_mul j L).symm
      have F3 := Lib.hid f3
      clear f3
      rw [if_neg (by omega)]
      generalize j * L = p at *
      go_wp2_with fail
      refine (keep_ok _ _ (by omega) (by omega) (by omega) (by omega) _).mono ?_
      rintro e v1 ⟨rfl, rfl⟩
      go_wp2
      · go_roundg (P - (j + 1))
        case measure => have := HJ.out; omega
        case rel => exact ⟨rfl, j + 1, by omega, by go_num, by rw [if_pos (F3.out.1 (by omega))]⟩
      · go_roundg (P - (j + 1))
        case measure => have := HJ.out; omega
        case rel => exact ⟨rfl, j + 1, by omega, by go_num, by rw [if_neg (fun h => by have := F3.out.2 h; omega)]⟩
    · obtain rfl : j = P := by omega
      rw [if_pos rfl]
      go_wp2
      go_ret
      exact ⟨rfl, Below.refl _ _⟩

/-! ### THE ROW's STEP: WRITTEN OUT: LEAVE IT -/
set_option maxRecDepth 100000 in
theorem lifted (os : Os) (started : os.Started) (H : Type) (enc : TypeId × Value → H) :
    ReturnsInHanded {} Try.checked os 6 .any (Rows.gateLevelsSpec.pre6 enc Try.prog Try.f6 Rows.gateLevelsRow.domain false) (Rows.gateLevelsSpec.post enc Try.prog Try.f6 false true false false) := by
  refine returnsInHanded_of_change (C := Try.checked) own started (by kernel_rfl) Try.func6
    (ChangeSpec.witness6 (enc := enc) (C := Try.checked) false ⟨#[], #[.int .i64 0, .int .i64 0], []⟩ 8 (by kernel_rfl) (by kernel_rfl) (by kernel_rfl) (by kernel_rfl)) ?_
  intro W base args ds gs before hval0 hW hcnd _
  have hval : ∀ (j : Nat) t v, Try.f6.params[j]? = some t → args[j]? = some v → Value.okWide Try.prog W .any base t v := hval0
  have hW' := hW
  obtain ⟨p, q, hA0, hV, rfl, hfz, hnd⟩ := hW
  have hA : DataW.TrodAll enc Try.prog W 0 (fun _ => true) true Try.f6.params.toList args.toList ds p := hA0
  rw [Try.params6] at hA hval
  obtain ⟨v0, vs0, d0, ds0, p0, q0, hargs, rfl, rfl, h0, r0⟩ := trodAll_cons hA
  obtain ⟨v1, vs1, d1, ds1, p1, q1, rfl, rfl, rfl, h1, r1⟩ := trodAll_cons r0
  obtain ⟨rfl, rfl, rfl⟩ := trodAll_nil r1
  obtain rfl : args = #[v0, v1] := by cases args; simp_all
  obtain ⟨rfl, rfl⟩ := trodVars_none hV
  obtain ⟨a0, rfl, rfl, rfl, w0⟩ := open_int Try.underlying3 (hval 0 3 v0 rfl rfl) h0
  obtain ⟨a1, rfl, rfl, rfl, w1⟩ := open_int Try.underlying3 (hval 1 3 v1 rfl rfl) h1
  clear hA0 hval0
  simp only [List.append_nil] at hW'
  refine (walk a0 a1 w0 w1 W).mono fun e W' ⟨he, hg⟩ => ?_
  subst he
  exact ⟨_, rfl, _, _, _, [], _, [], hW', (trodAll_cons_mk (shut_bool Try.underlying4 _) trodAll_mk0), (trodAll_cons_mk (shut_int Try.underlying3 w0) (trodAll_cons_mk (shut_int Try.underlying3 w1) trodAll_mk0)), rfl, hg.frame _, fun h => by cases h⟩

theorem over : Rows.gateLevelsRow.holds Try.pinned (OpenSpec.ofChange Rows.gateLevelsSpec) :=
  OpenClaim.holds_of_wide 6 Try.f6 rfl rfl rfl rfl rfl rfl rfl ⟨rfl, rfl, rfl, rfl, rfl⟩ rfl rfl rfl rfl rfl (by kernel_rfl) Try.func6 (by kernel_rfl)
    (of_decide_eq_true (by kernel_rfl)) (by unfold Func.isWrapper; first | (rw [if_pos (by decide +kernel)]; kernel_rfl) | (rw [if_neg (by decide +kernel)]; exact ⟨rfl, rfl⟩))
    (fun os started H enc _ => lifted os started H enc)

/-- ████ THE STATEMENT ████ -/
theorem proved : Rows.GateLevelsSaid :=
  over
#print axioms proved
end Go.Proofs.Ytelehdnjioocmaa.gateLevels
