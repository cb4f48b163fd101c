/-
  'Rows.HexaShortSaid' is proved: the text of a threshold is the beginning of that of the random value, and has no more digits than it must. No condition.
  The frame of this proof was written by the kit's proof-skeleton.mjs.
-/
import Derived.Test.YtmaflidkejapoaaRows
import Derived.Test.YtmaflidkejapoaaHexa
import Derived.Test.YtmaflidkejapoaaWithin
import Derived.WalkKit
import Derived.ProofKit
import Derived.ChangeOld
import Derived.Below
import Derived.OpenShut
import Derived.ShutString
namespace Go.Proofs.Ytmaflidkejapoaa.hexaShort
open Go.ChangeShapes Go.WideShapes Go.ChangeAt Go.RowKit
open Go.ChangeMaps (open_string shut_string)
set_option linter.unusedVariables false      -- a walk need not use every 'w<i>' (that an integer argument fits its kind)

theorem own : ownKnob Try.prog.godebug = none := by kernel_rfl

theorem down_walk (n k : Nat) (hn : n < 72057594037927936) : wrap64 ((n : Int) / 2 ^ (4 * k) * 2 ^ (4 * k)) = ((n / 16 ^ k * 16 ^ k : Nat) : Int) := by
  have e : (2 : Int) ^ (4 * k) = ((16 ^ k : Nat) : Int) := by
    rw [Int.pow_mul]
    norm_cast
  have h : n / 16 ^ k * 16 ^ k ≤ n := Nat.div_mul_le_self _ _
  rw [e]
  have e2 : (n : Int) / ((16 ^ k : Nat) : Int) * ((16 ^ k : Nat) : Int) = ((n / 16 ^ k * 16 ^ k : Nat) : Int) := by norm_cast
  rw [e2]
  generalize n / 16 ^ k * 16 ^ k = m at *
  unfold wrap64
  omega


/-! ### STEP 1: THE WALK: the Go text returns true. 'Grown w w'': the world has at most new blocks (Derived/RowKit3.lean). Part the cases AHEAD of 'go_enter' where a test parts the walk; take each callee by a contract of your own. -/
theorem walk (a0 : Int) (a1 : Int) (w0 : (Lit.int .i64 a0).wf = true) (w1 : (Lit.int .i64 a1).wf = true) (w : World) :
    Calls Try.prog 8 #[.int .i64 a0, .int .i64 a1] w fun e w' => e = .returned (.bool true) ∧ Below w.heap.size w w' := by
  have b0 := wf_i64 w0
  have b1 := wf_i64 w1
  have d0 := withI_bd a0 72057594037927936 (by omega)
  have d1 := withI_bd a1 14 (by omega)
  have t1 : ((rvB 1).toList == [48,48,48,48,48,48,48,48,48,48,48,48,48,49]) = true := by decide +kernel
  go_enter Try.func8, Try.ntmps8
  go_wp2_with fail
  refine (rv_int 1 _ (by omega) (by omega)).mono ?_
  rintro e w1 ⟨rfl, hb1⟩
  go_wp2_with fail
  refine (draw_int _ _ b0).mono ?_
  rintro e w2 ⟨rfl, rfl⟩
  go_wp2_with fail
  refine (within_int _ _ _ b1 (by omega) (by omega)).mono ?_
  rintro e w2 ⟨rfl, rfl⟩
  generalize withI a0 72057594037927936 = n at *
  generalize withI a1 14 = k at *
  obtain ⟨n, rfl⟩ := Int.eq_ofNat_of_zero_le d0.1
  obtain ⟨k, rfl⟩ := Int.eq_ofNat_of_zero_le d1.1
  have hd := Lib.hid (down_walk n k (by omega))
  have hc := HexaMath.cut_short (n / 16 ^ k) k (by omega)
  have hp := HexaMath.cut_pos ⟨(HexaMath.rv (n / 16 ^ k * 16 ^ k)).toArray⟩ 14 (by omega)
  have hm : n / 16 ^ k * 16 ^ k ≤ n := Nat.div_mul_le_self _ _
  go_wp2_with fail
  rw [hd.out]
  clear hd
  generalize n / 16 ^ k * 16 ^ k = m at *
  refine (th_int _ _ (by omega) (by omega)).mono ?_
  rw [Int.toNat_natCast]
  rintro e w2 ⟨rfl, hb2⟩
  rw [thB_eq]
  go_wp2_with fail
  refine (rv_int _ _ (by omega) (by omega)).mono ?_
  rw [Int.toNat_natCast]
  rintro e w3 ⟨rfl, hb3⟩
  have hs := rvB_size m
  change HexaMath.cut (rvB m) 14 ≤ 14 - k at hc
  change 1 ≤ HexaMath.cut (rvB m) 14 at hp
  generalize HexaMath.cut (rvB m) 14 = c at *
  generalize rvB m = t at *
  go_wp2
  have e : min c 14 = c := by omega
  go_ret
  refine ⟨?_, (hb1.trans (hb2.mono hb1.size)).trans (hb3.mono (Nat.le_trans hb1.size hb2.size))⟩
  show Ending.returned (.bool ((t.extract 0 (min c 14)).toList == (t.extract 0 c).toList)) = _
  rw [e, beq_self_eq_true]

/-! ### THE ROW's STEP: WRITTEN OUT: LEAVE IT -/
set_option maxRecDepth 100000 in
theorem lifted (os : Os) (started : os.Started) (H : Type) (enc : TypeId × Value → H) :
    ReturnsInHanded {} Try.checked os 8 .any (Rows.hexaShortSpec.pre6 enc Try.prog Try.f8 Rows.hexaShortRow.domain false) (Rows.hexaShortSpec.post enc Try.prog Try.f8 false true false false) := by
  refine returnsInHanded_of_change (C := Try.checked) own started (by kernel_rfl) Try.func8
    (ChangeSpec.witness6 (enc := enc) (C := Try.checked) false ⟨#[], #[.int .i64 0, .int .i64 0], []⟩ 8 (by kernel_rfl) (by kernel_rfl) (by kernel_rfl) (by kernel_rfl)) ?_
  intro W base args ds gs before hval0 hW hcnd _
  have hval : ∀ (j : Nat) t v, Try.f8.params[j]? = some t → args[j]? = some v → Value.okWide Try.prog W .any base t v := hval0
  have hW' := hW
  obtain ⟨p, q, hA0, hV, rfl, hfz, hnd⟩ := hW
  have hA : DataW.TrodAll enc Try.prog W 0 (fun _ => true) true Try.f8.params.toList args.toList ds p := hA0
  rw [Try.params8] at hA hval
  obtain ⟨v0, vs0, d0, ds0, p0, q0, hargs, rfl, rfl, h0, r0⟩ := trodAll_cons hA
  obtain ⟨v1, vs1, d1, ds1, p1, q1, rfl, rfl, rfl, h1, r1⟩ := trodAll_cons r0
  obtain ⟨rfl, rfl, rfl⟩ := trodAll_nil r1
  obtain rfl : args = #[v0, v1] := by cases args; simp_all
  obtain ⟨rfl, rfl⟩ := trodVars_none hV
  obtain ⟨a0, rfl, rfl, rfl, w0⟩ := open_int Try.underlying3 (hval 0 3 v0 rfl rfl) h0
  obtain ⟨a1, rfl, rfl, rfl, w1⟩ := open_int Try.underlying3 (hval 1 3 v1 rfl rfl) h1
  clear hA0 hval0
  simp only [List.append_nil] at hW'
  refine (walk a0 a1 w0 w1 W).mono fun e W' ⟨he, hg⟩ => ?_
  subst he
  exact ⟨_, rfl, _, _, _, [], _, [], hW', (trodAll_cons_mk (shut_bool Try.underlying4 _) trodAll_mk0), (trodAll_cons_mk (shut_int Try.underlying3 w0) (trodAll_cons_mk (shut_int Try.underlying3 w1) trodAll_mk0)), rfl, hg.frame _, fun h => by cases h⟩

theorem over : Rows.hexaShortRow.holds Try.pinned (OpenSpec.ofChange Rows.hexaShortSpec) :=
  OpenClaim.holds_of_wide 8 Try.f8 rfl rfl rfl rfl rfl rfl rfl ⟨rfl, rfl, rfl, rfl, rfl⟩ rfl rfl rfl rfl rfl (by kernel_rfl) Try.func8 (by kernel_rfl)
    (of_decide_eq_true (by kernel_rfl)) (by unfold Func.isWrapper; first | (rw [if_pos (by decide +kernel)]; kernel_rfl) | (rw [if_neg (by decide +kernel)]; exact ⟨rfl, rfl⟩))
    (fun os started H enc _ => lifted os started H enc)

/-- ████ THE STATEMENT ████ -/
theorem proved : Rows.HexaShortSaid :=
  over
#print axioms proved
end Go.Proofs.Ytmaflidkejapoaa.hexaShort
