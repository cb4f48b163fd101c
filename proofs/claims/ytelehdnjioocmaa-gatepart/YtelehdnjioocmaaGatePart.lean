/-
  'Rows.GatePartSaid' is proved: Part's threshold is reached by the wanted part of all random values, rounded up to a whole one, and a greater part has no greater threshold. No condition.
  The frame of this proof was written by the kit's proof-skeleton.mjs.
-/
import Derived.Test.YtelehdnjioocmaaRows
import Derived.Test.YtelehdnjioocmaaWithin
import Derived.Test.YtelehdnjioocmaaGate
import Derived.Deep.QuietTactic
import Derived.BigQuiet
import Derived.WalkKit
import Derived.ProofKit
import Derived.ChangeOld
import Derived.Below
import Derived.OpenShut
import Derived.ShutString
namespace Go.Proofs.Ytelehdnjioocmaa.gatePart
open Go.ChangeShapes Go.WideShapes Go.ChangeAt Go.RowKit
open Go.ChangeMaps (open_string shut_string)
set_option linter.unusedVariables false      -- a walk need not use every 'w<i>' (that an integer argument fits its kind)

theorem own : ownKnob Try.prog.godebug = none := by kernel_rfl

theorem few_parts (num den : Nat) (hd : 0 < den) : fewOf num den = (two56 / den) * num + ((two56 % den) * num + den - 1) / den := by
  have h := Nat.div_add_mod two56 den
  unfold fewOf
  generalize two56 / den = q at *
  generalize two56 % den = r at *
  rw [← h, Nat.add_mul, Nat.mul_assoc, Nat.add_assoc, Nat.mul_add_div hd, Nat.add_sub_assoc hd]
theorem few_mono (a b den : Nat) (hd : 0 < den) (h : a ≤ b) : fewOf a den ≤ fewOf b den := by
  unfold fewOf
  exact Nat.div_le_div_right (by have := Nat.mul_le_mul_left two56 h; omega)

/-! ### STEP 1: THE WALK: the Go text returns true. 'Grown w w'': the world has at most new blocks (Derived/RowKit3.lean). Part the cases AHEAD of 'go_enter' where a test parts the walk; take each callee by a contract of your own. -/
set_option maxRecDepth 100000 in
set_option maxHeartbeats 1000000 in
theorem walk (a0 : Int) (a1 : Int) (a2 : Int) (w0 : (Lit.int .i64 a0).wf = true) (w1 : (Lit.int .i64 a1).wf = true) (w2 : (Lit.int .i64 a2).wf = true) (w : World) :
    Calls Try.prog 7 #[.int .i64 a0, .int .i64 a1, .int .i64 a2] w fun e w' => e = .returned (.bool true) ∧ Below w.heap.size w w' := by
  have b0 := wf_i64 w0
  have b1 := wf_i64 w1
  have b2 := wf_i64 w2
  have d1 := withI_bd a1 100 (by omega)
  have P1 := part_ok 1 2 (by omega) (by omega) (by omega) w
  rw [show ((two56 - fewOf 1 2 : Nat) : Int) = 36028797018963968 from by decide +kernel] at P1
  have P1 := Lib.hid P1
  go_enter Try.func7, Try.ntmps7
  go_wp2_with fail
  refine P1.out.mono ?_
  rintro e v1 ⟨rfl, hb1⟩
  go_wp2_with fail
  refine (within_int _ _ _ b1 (by omega) (by omega)).mono ?_
  rintro e v3 ⟨rfl, rfl⟩
  generalize withI a1 100 = D at *
  obtain ⟨d, hd⟩ : ∃ d : Nat, 1 + D = (d : Int) := ⟨(1 + D).toNat, by omega⟩
  have hd1 : 1 ≤ d := by omega
  have hd2 : d ≤ 100 := by omega
  clear d1 P1
  have d0 := withI_bd a0 (d : Int) (by omega)
  go_wp2_with fail
  refine (within_int _ _ _ b0 (by omega) (by omega)).mono ?_
  rintro e v3 ⟨rfl, rfl⟩
  generalize withI a0 (d : Int) = M at *
  obtain ⟨m, hm⟩ : ∃ m : Nat, 1 + M = (m : Int) := ⟨(1 + M).toNat, by omega⟩
  have hm1 : 1 ≤ m := by omega
  have hm2 : m ≤ d := by omega
  clear d0
  have d2 := withI_bd a2 ((d : Int) - (m : Int) + 1) (by omega)
  have C1 := Lib.hid (fun w => part_ok m d hm1 hm2 (by omega) w)
  go_wp2_with fail
  refine (C1.out _).mono ?_
  rintro e v2 ⟨rfl, hb2⟩
  go_wp2_with fail
  refine (within_int _ _ _ b2 (by omega) (by omega)).mono ?_
  rintro e v3 ⟨rfl, rfl⟩
  generalize withI a2 ((d : Int) - (m : Int) + 1) = U at *
  obtain ⟨u, hu⟩ : ∃ u : Nat, (m : Int) + U = (u : Int) := ⟨((m : Int) + U).toNat, by omega⟩
  have hu1 : m ≤ u := by omega
  have hu2 : u ≤ d := by omega
  clear d2 C1
  have C2 := Lib.hid (fun w => part_ok u d (by omega) hu2 (by omega) w)
  have f1 := few_parts m d (by omega)
  have f2 := few_mono m u d (by omega) hu1
  have f3 := fewOf_le u d (by omega) hu2
  rw [two56_val] at f3
  generalize fewOf u d = F at *
  generalize hG : fewOf m d = G at *
  clear hG
  have g1 : (72057594037927936 : Int) / (d : Int) = ((two56 / d : Nat) : Int) := by rw [Int.natCast_ediv]; rfl
  have g2 : (72057594037927936 : Int) % (d : Int) = ((two56 % d : Nat) : Int) := by rw [Int.natCast_emod]; rfl
  have l1 : two56 / d * m ≤ 72057594037927936 := by
    have := Nat.div_mul_le_self two56 d
    have h2 : two56 / d * m ≤ two56 / d * d := Nat.mul_le_mul_left _ hm2
    have h3 := two56_val
    omega
  have l2 : two56 % d < d := Nat.mod_lt _ (by omega)
  have l2a : two56 / d ≤ 72057594037927936 := Nat.div_le_self _ _
  generalize two56 / d = q at *
  generalize two56 % d = r at *
  have l3 : r * m ≤ 100 * 100 := Nat.mul_le_mul (by omega) (by omega)
  have g3 : (q : Int) * (m : Int) = ((q * m : Nat) : Int) := (Int.natCast_mul q m).symm
  have g4 : (r : Int) * (m : Int) = ((r * m : Nat) : Int) := (Int.natCast_mul r m).symm
  generalize q * m = x at *
  generalize r * m = y at *
  have g5 : ((y : Int) + (d : Int) - 1) / (d : Int) = (((y + d - 1) / d : Nat) : Int) := by
    rw [Int.natCast_ediv]
    congr 1
    omega
  have l5 : (y + d - 1) / d ≤ y + d - 1 := Nat.div_le_self _ _
  generalize (y + d - 1) / d = z at *
  have t1 : ((d : Int) == 0) = false := by simp; omega
  rw [two56_val, show ((72057594037927936 - F : Nat) : Int) = 72057594037927936 - (F : Int) from by omega] at C2
  rw [two56_val, show ((72057594037927936 - G : Nat) : Int) = 72057594037927936 - (G : Int) from by omega]
  have hG1 : G ≤ x + z := by omega
  have hG2 : x + z ≤ G := by omega
  clear f1
  have hw := below_on hb1 hb2
  clear hb1 hb2
  go_wp2_with fail
  refine (C2.out _).mono ?_
  rintro e v3 ⟨rfl, hb3⟩
  have hw := below_on hw hb3
  clear hb3 C2
  go_wp2
  go_quiet (fail)
  go_wp2
  go_ret
  exact ⟨ret_bool (by simp), below_drewN hw _⟩

/-! ### THE ROW's STEP: WRITTEN OUT: LEAVE IT -/
set_option maxRecDepth 100000 in
theorem lifted (os : Os) (started : os.Started) (H : Type) (enc : TypeId × Value → H) :
    ReturnsInHanded {} Try.checked os 7 .any (Rows.gatePartSpec.pre6 enc Try.prog Try.f7 Rows.gatePartRow.domain false) (Rows.gatePartSpec.post enc Try.prog Try.f7 false true false false) := by
  refine returnsInHanded_of_change (C := Try.checked) own started (by kernel_rfl) Try.func7
    (ChangeSpec.witness6 (enc := enc) (C := Try.checked) false ⟨#[], #[.int .i64 0, .int .i64 0, .int .i64 0], []⟩ 8 (by kernel_rfl) (by kernel_rfl) (by kernel_rfl) (by kernel_rfl)) ?_
  intro W base args ds gs before hval0 hW hcnd _
  have hval : ∀ (j : Nat) t v, Try.f7.params[j]? = some t → args[j]? = some v → Value.okWide Try.prog W .any base t v := hval0
  have hW' := hW
  obtain ⟨p, q, hA0, hV, rfl, hfz, hnd⟩ := hW
  have hA : DataW.TrodAll enc Try.prog W 0 (fun _ => true) true Try.f7.params.toList args.toList ds p := hA0
  rw [Try.params7] at hA hval
  obtain ⟨v0, vs0, d0, ds0, p0, q0, hargs, rfl, rfl, h0, r0⟩ := trodAll_cons hA
  obtain ⟨v1, vs1, d1, ds1, p1, q1, rfl, rfl, rfl, h1, r1⟩ := trodAll_cons r0
  obtain ⟨v2, vs2, d2, ds2, p2, q2, rfl, rfl, rfl, h2, r2⟩ := trodAll_cons r1
  obtain ⟨rfl, rfl, rfl⟩ := trodAll_nil r2
  obtain rfl : args = #[v0, v1, v2] := by cases args; simp_all
  obtain ⟨rfl, rfl⟩ := trodVars_none hV
  obtain ⟨a0, rfl, rfl, rfl, w0⟩ := open_int Try.underlying3 (hval 0 3 v0 rfl rfl) h0
  obtain ⟨a1, rfl, rfl, rfl, w1⟩ := open_int Try.underlying3 (hval 1 3 v1 rfl rfl) h1
  obtain ⟨a2, rfl, rfl, rfl, w2⟩ := open_int Try.underlying3 (hval 2 3 v2 rfl rfl) h2
  clear hA0 hval0
  simp only [List.append_nil] at hW'
  refine (walk a0 a1 a2 w0 w1 w2 W).mono fun e W' ⟨he, hg⟩ => ?_
  subst he
  exact ⟨_, rfl, _, _, _, [], _, [], hW', (trodAll_cons_mk (shut_bool Try.underlying4 _) trodAll_mk0), (trodAll_cons_mk (shut_int Try.underlying3 w0) (trodAll_cons_mk (shut_int Try.underlying3 w1) (trodAll_cons_mk (shut_int Try.underlying3 w2) trodAll_mk0))), rfl, hg.frame _, fun h => by cases h⟩

theorem over : Rows.gatePartRow.holds Try.pinned (OpenSpec.ofChange Rows.gatePartSpec) :=
  OpenClaim.holds_of_wide 7 Try.f7 rfl rfl rfl rfl rfl rfl rfl ⟨rfl, rfl, rfl, rfl, rfl⟩ rfl rfl rfl rfl rfl (by kernel_rfl) Try.func7 (by kernel_rfl)
    (of_decide_eq_true (by kernel_rfl)) (by unfold Func.isWrapper; first | (rw [if_pos (by decide +kernel)]; kernel_rfl) | (rw [if_neg (by decide +kernel)]; exact ⟨rfl, rfl⟩))
    (fun os started H enc _ => lifted os started H enc)

/-- ████ THE STATEMENT ████ -/
theorem proved : Rows.GatePartSaid :=
  over
#print axioms proved
end Go.Proofs.Ytelehdnjioocmaa.gatePart
