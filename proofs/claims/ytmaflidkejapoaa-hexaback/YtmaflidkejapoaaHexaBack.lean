/-
  'Rows.HexaBackSaid' is proved: parsing inverts formatting in both directions, and the texts are in the order of their numbers. No condition.
  The frame of this proof was written by the kit's proof-skeleton.mjs.
-/
import Derived.Test.YtmaflidkejapoaaRows
import Derived.Test.YtmaflidkejapoaaHexaParse
import Derived.Test.YtmaflidkejapoaaWithin
import Derived.WalkKit
import Derived.ProofKit
import Derived.ChangeOld
import Derived.Below
import Derived.OpenShut
import Derived.ShutString
namespace Go.Proofs.Ytmaflidkejapoaa.hexaBack
open Go.ChangeShapes Go.WideShapes Go.ChangeAt Go.RowKit
open Go.ChangeMaps (open_string shut_string)
set_option linter.unusedVariables false      -- a walk need not use every 'w<i>' (that an integer argument fits its kind)

theorem own : ownKnob Try.prog.godebug = none := by kernel_rfl

theorem thB_list (n : Nat) : (thB n).data.toList = HexaMath.th n := by
  rw [thB_eq, Lib.extract_data]
  rfl
theorem rvB_list (n : Nat) : (rvB n).data.toList = HexaMath.rv n := rfl
theorem thB_back (s : ByteArray) (n : Nat) (h : HexaMath.th n = s.data.toList) : ((thB n).toList == s.toList) = true := by
  rw [Lib.toList_data, Lib.toList_data, thB_list, h, beq_self_eq_true]
theorem rvB_back (s : ByteArray) (n : Nat) (h : HexaMath.rv n = s.data.toList) : ((rvB n).toList == s.toList) = true := by
  rw [Lib.toList_data, Lib.toList_data, rvB_list, h, beq_self_eq_true]


/-! ### STEP 1: THE WALK: the Go text returns true. 'Grown w w'': the world has at most new blocks (Derived/RowKit3.lean). Part the cases AHEAD of 'go_enter' where a test parts the walk; take each callee by a contract of your own. -/
theorem walk (a0 : Int) (a1 : Int) (a2 : ByteArray) (w0 : (Lit.int .i64 a0).wf = true) (w1 : (Lit.int .i64 a1).wf = true) (w2 : a2.size ≤ maxLen) (w : World) :
    Calls Try.prog 6 #[.int .i64 a0, .int .i64 a1, .string a2] w fun e w' => e = .returned (.bool true) ∧ Below w.heap.size w w' := by
  have b0 := wf_i64 w0
  have b1 := wf_i64 w1
  have d0 := withI_bd a0 72057594037927936 (by omega)
  have d1 := withI_bd a1 72057594037927936 (by omega)
  have t1 : ((thB 36028797018963968).toList == [56]) = true := by decide +kernel
  go_enter Try.func6, Try.ntmps6
  go_wp2_with fail
  refine (th_int _ _ (by omega) (by omega)).mono ?_
  rintro e v1 ⟨rfl, hb1⟩
  go_wp2_with fail
  refine (draw_int _ _ b0).mono ?_
  rintro e v2 ⟨rfl, rfl⟩
  go_wp2_with fail
  refine (draw_int _ _ b1).mono ?_
  rintro e v2 ⟨rfl, rfl⟩
  generalize withI a0 72057594037927936 = A at *
  generalize withI a1 72057594037927936 = B at *
  obtain ⟨A, rfl⟩ := Int.eq_ofNat_of_zero_le d0.1
  obtain ⟨B, rfl⟩ := Int.eq_ofNat_of_zero_le d1.1
  have hA : A < 72057594037927936 := by omega
  have hB : B < 72057594037927936 := by omega
  go_wp2_with fail
  refine (th_int _ _ (by omega) (by omega)).mono ?_
  rw [Int.toNat_natCast]
  rintro e v2 ⟨rfl, hb2⟩
  go_wp2_with fail
  refine (rv_int _ _ (by omega) (by omega)).mono ?_
  rw [Int.toNat_natCast]
  rintro e v3 ⟨rfl, hb3⟩
  have H1 : Hid (HexaMath.parseTh (thB A).data.toList = some A) := by rw [thB_list]; exact HexaMath.parseTh_th A hA
  have H2 : Hid (HexaMath.parseRv (rvB A).data.toList = some A) := by rw [rvB_list]; exact HexaMath.parseRv_rv A hA
  have hs : (rvB A).size = 14 := rvB_size A
  have L1 : Op.bytesLess (thB A).toList (thB B).toList = decide (A < B) := by
    rw [Lib.toList_data, Lib.toList_data, thB_list, thB_list]; exact HexaMath.less_th A B hA hB
  have L2 : Op.bytesLess (rvB A).toList (rvB B).toList = decide (A < B) := by
    rw [Lib.toList_data, Lib.toList_data, rvB_list, rvB_list]; exact HexaMath.less_rv A B hA hB
  generalize thB A = X at *
  generalize rvB A = Y at *
  go_wp2_with fail
  refine (parseTh_yes _ _ _ H1.out).mono ?_
  rintro e v4 ⟨rfl, rfl⟩
  go_wp2_with fail
  refine (parseRv_yes _ _ _ H2.out).mono ?_
  rintro e v4 ⟨rfl, rfl⟩
  go_wp2_with fail
  refine (th_int _ _ (by omega) (by omega)).mono ?_
  rw [Int.toNat_natCast]
  rintro e v4 ⟨rfl, hb4⟩
  go_wp2_with fail
  refine (rv_int _ _ (by omega) (by omega)).mono ?_
  rw [Int.toNat_natCast]
  rintro e v5 ⟨rfl, hb5⟩
  go_wp2_with fail
  have hw := below_on (below_on (below_on (below_on hb1 hb2) hb3) hb4) hb5
  clear hb1 hb2 hb3 hb4 hb5 L1 L2 H1 H2
  cases hp : HexaMath.parseTh a2.data.toList with
  | none =>
    have HP := Lib.hid hp
    clear hp
    refine (parseTh_no _ _ HP.out).mono ?_
    rintro e v6 ⟨rfl, rfl⟩
    go_wp2_with fail
    cases hq : HexaMath.parseRv a2.data.toList with
    | none =>
      have HQ := Lib.hid hq
      clear hq
      refine (parseRv_no _ _ HQ.out).mono ?_
      rintro e v6 ⟨rfl, rfl⟩
      go_wp2
      go_ret
      exact ⟨rfl, hw⟩
    | some q =>
      have HQ := Lib.hid hq
      obtain ⟨q1, q2⟩ := HexaMath.rv_parseRv _ _ hq
      have q3 := rvB_back a2 q q2
      clear hq q2
      refine (parseRv_yes _ _ _ HQ.out).mono ?_
      rintro e v6 ⟨rfl, rfl⟩
      go_wp2_with fail
      refine (rv_int _ _ (by omega) (by omega)).mono ?_
      rw [Int.toNat_natCast]
      rintro e v6 ⟨rfl, hb6⟩
      go_wp2
      go_ret
      exact ⟨rfl, below_on hw hb6⟩
  | some k =>
    have HP := Lib.hid hp
    obtain ⟨k1, k2⟩ := HexaMath.th_parseTh _ _ hp
    have k3 := thB_back a2 k k2
    clear hp k2
    refine (parseTh_yes _ _ _ HP.out).mono ?_
    rintro e v6 ⟨rfl, rfl⟩
    go_wp2_with fail
    refine (th_int _ _ (by omega) (by omega)).mono ?_
    rw [Int.toNat_natCast]
    rintro e v6 ⟨rfl, hb6⟩
    have hw6 := below_on hw hb6
    go_wp2_with fail
    cases hq : HexaMath.parseRv a2.data.toList with
    | none =>
      have HQ := Lib.hid hq
      clear hq
      refine (parseRv_no _ _ HQ.out).mono ?_
      rintro e v7 ⟨rfl, rfl⟩
      go_wp2
      go_ret
      exact ⟨rfl, hw6⟩
    | some q =>
      have HQ := Lib.hid hq
      obtain ⟨q1, q2⟩ := HexaMath.rv_parseRv _ _ hq
      have q3 := rvB_back a2 q q2
      clear hq q2
      refine (parseRv_yes _ _ _ HQ.out).mono ?_
      rintro e v7 ⟨rfl, rfl⟩
      go_wp2_with fail
      refine (rv_int _ _ (by omega) (by omega)).mono ?_
      rw [Int.toNat_natCast]
      rintro e v7 ⟨rfl, hb7⟩
      go_wp2
      go_ret
      exact ⟨rfl, below_on hw6 hb7⟩

/-! ### THE ROW's STEP: WRITTEN OUT: LEAVE IT -/
set_option maxRecDepth 100000 in
theorem lifted (os : Os) (started : os.Started) (H : Type) (enc : TypeId × Value → H) :
    ReturnsInHanded {} Try.checked os 6 .any (Rows.hexaBackSpec.pre6 enc Try.prog Try.f6 Rows.hexaBackRow.domain false) (Rows.hexaBackSpec.post enc Try.prog Try.f6 false true false false) := by
  refine returnsInHanded_of_change (C := Try.checked) own started (by kernel_rfl) Try.func6
    (ChangeSpec.witness6 (enc := enc) (C := Try.checked) false ⟨#[], #[.int .i64 0, .int .i64 0, .string ByteArray.empty], []⟩ 8 (by kernel_rfl) (by kernel_rfl) (by kernel_rfl) (by kernel_rfl)) ?_
  intro W base args ds gs before hval0 hW hcnd _
  have hval : ∀ (j : Nat) t v, Try.f6.params[j]? = some t → args[j]? = some v → Value.okWide Try.prog W .any base t v := hval0
  have hW' := hW
  obtain ⟨p, q, hA0, hV, rfl, hfz, hnd⟩ := hW
  have hA : DataW.TrodAll enc Try.prog W 0 (fun _ => true) true Try.f6.params.toList args.toList ds p := hA0
  rw [Try.params6] at hA hval
  obtain ⟨v0, vs0, d0, ds0, p0, q0, hargs, rfl, rfl, h0, r0⟩ := trodAll_cons hA
  obtain ⟨v1, vs1, d1, ds1, p1, q1, rfl, rfl, rfl, h1, r1⟩ := trodAll_cons r0
  obtain ⟨v2, vs2, d2, ds2, p2, q2, rfl, rfl, rfl, h2, r2⟩ := trodAll_cons r1
  obtain ⟨rfl, rfl, rfl⟩ := trodAll_nil r2
  obtain rfl : args = #[v0, v1, v2] := by cases args; simp_all
  obtain ⟨rfl, rfl⟩ := trodVars_none hV
  obtain ⟨a0, rfl, rfl, rfl, w0⟩ := open_int Try.underlying3 (hval 0 3 v0 rfl rfl) h0
  obtain ⟨a1, rfl, rfl, rfl, w1⟩ := open_int Try.underlying3 (hval 1 3 v1 rfl rfl) h1
  obtain ⟨a2, rfl, rfl, rfl, w2⟩ := open_string Try.underlying9 (hval 2 9 v2 rfl rfl) h2
  clear hA0 hval0
  simp only [List.append_nil] at hW'
  refine (walk a0 a1 a2 w0 w1 w2 W).mono fun e W' ⟨he, hg⟩ => ?_
  subst he
  exact ⟨_, rfl, _, _, _, [], _, [], hW', (trodAll_cons_mk (shut_bool Try.underlying4 _) trodAll_mk0), (trodAll_cons_mk (shut_int Try.underlying3 w0) (trodAll_cons_mk (shut_int Try.underlying3 w1) (trodAll_cons_mk (shut_string Try.underlying9 w2) trodAll_mk0))), rfl, hg.frame _, fun h => by cases h⟩

theorem over : Rows.hexaBackRow.holds Try.pinned (OpenSpec.ofChange Rows.hexaBackSpec) :=
  OpenClaim.holds_of_wide 6 Try.f6 rfl rfl rfl rfl rfl rfl rfl ⟨rfl, rfl, rfl, rfl, rfl⟩ rfl rfl rfl rfl rfl (by kernel_rfl) Try.func6 (by kernel_rfl)
    (of_decide_eq_true (by kernel_rfl)) (by unfold Func.isWrapper; first | (rw [if_pos (by decide +kernel)]; kernel_rfl) | (rw [if_neg (by decide +kernel)]; exact ⟨rfl, rfl⟩))
    (fun os started H enc _ => lifted os started H enc)

/-- ████ THE STATEMENT ████ -/
theorem proved : Rows.HexaBackSaid :=
  over
#print axioms proved
end Go.Proofs.Ytmaflidkejapoaa.hexaBack
