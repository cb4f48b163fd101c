/-
  'Rows.HexaSaysCardSaid' is proved: Th, Rv, ParseTh and ParseRv return what the document specifies, for all arguments. Two tables of Go's library that the row lists are tied to the program's text by the given tie; nothing else is asked.
  The frame of this proof was written by the kit's proof-skeleton.mjs.
-/
import Derived.Test.YtmaflidkejapoaaDoorRows
import Derived.Test.YtmaflidkejapoaaDoorRefHexaTh
import Derived.WalkKit
import Derived.Test.YtmaflidkejapoaaDoorCards
import Derived.Test.YtmaflidkejapoaaDoorTie
import Derived.ProofKit
import Derived.Lay
import Derived.LaidOnce
import Derived.SevenTiedAt
import Derived.ChangeOld
import Derived.Below
import Derived.OpenShut
import Derived.ShutString
namespace Go.Proofs.YtmaflidkejapoaaDoor.hexaSays
open Go.ChangeShapes Go.WideShapes Go.ChangeAt Go.RowKit
open Go.ChangeMaps (open_string shut_string)
set_option linter.unusedVariables false      -- a walk need not use every 'w<i>' (that an integer argument fits its kind)

theorem own : ownKnob Tryd.prog.godebug = none := by kernel_rfl

theorem eight : HexaMath.parseTh (ByteArray.mk #[56]).data.toList = some 36028797018963968 := by decide +kernel
theorem eight_calls (w : World) : Calls Tryd.prog 6 #[.string ⟨#[56]⟩] w fun e w' => e = .returned (.tuple #[.int .i64 36028797018963968, .int .i64 0]) ∧ w = w' :=
  parseTh_yes _ _ w eight
theorem draw_in (n : Int) (w : World) (h0 : 0 ≤ n) (h1 : n < 72057594037927936) : Calls Tryd.prog 8 #[.int .i64 n] w fun e w' => e = .returned (.bool true) ∧ w = w' := by
  have t1 : decide (0 ≤ n) = true := by simpa using h0
  have t2 : decide (n ≤ 72057594037927935) = true := by simp; omega
  go_enter Tryd.func8, Tryd.ntmps8
  go_wp2_with fail
  refine (within_ref _ _ _ _).mono ?_
  rw [t1, t2]
  rintro e w' ⟨rfl, rfl⟩
  go_wp2
  go_ret
  exact ⟨rfl, rfl⟩
theorem draw_out (n : Int) (w : World) (h : n < 0 ∨ 72057594037927936 ≤ n) : Calls Tryd.prog 8 #[.int .i64 n] w fun e w' => e = .returned (.bool false) ∧ w = w' := by
  have t1 : (decide (0 ≤ n) && decide (n ≤ 72057594037927935)) = false := by
    rw [Bool.and_eq_false_iff]
    rcases h with h | h
    · left; simpa using h
    · right; simp; omega
  clear h
  go_enter Tryd.func8, Tryd.ntmps8
  go_wp2_with fail
  refine (within_ref _ _ _ _).mono ?_
  rw [t1]
  rintro e w' ⟨rfl, rfl⟩
  go_wp2
  go_ret
  exact ⟨rfl, rfl⟩
def pV (o : Option Nat) : Int := (o.getD 0 : Nat)
def pE : Option Nat → Int
  | some _ => 0
  | none => 3
theorem parseTh_all (s : ByteArray) (w : World) : Calls Tryd.prog 6 #[.string s] w fun e w' => e = .returned (.tuple #[.int .i64 (pV (HexaMath.parseTh s.data.toList)), .int .i64 (pE (HexaMath.parseTh s.data.toList))]) ∧ w = w' := by
  cases h : HexaMath.parseTh s.data.toList with
  | none => exact parseTh_no s w h
  | some n => exact parseTh_yes s n w h
theorem parseRv_all (s : ByteArray) (w : World) : Calls Tryd.prog 7 #[.string s] w fun e w' => e = .returned (.tuple #[.int .i64 (pV (HexaMath.parseRv s.data.toList)), .int .i64 (pE (HexaMath.parseRv s.data.toList))]) ∧ w = w' := by
  cases h : HexaMath.parseRv s.data.toList with
  | none => exact parseRv_no s w h
  | some n => exact parseRv_yes s n w h
theorem pV_some (n : Nat) : pV (some n) = n := rfl
theorem pV_none : pV none = 0 := rfl
theorem pE_some (n : Nat) : pE (some n) = 0 := rfl
theorem pE_none : pE none = 3 := rfl
theorem orNone_some (n : Nat) : orNone (some n) = n := rfl
theorem orNone_none : orNone none = -1 := rfl


/-! ### STEP 1: THE WALK: the Go text returns true. 'Grown w w'': the world has at most new blocks (Derived/RowKit3.lean). Part the cases AHEAD of 'go_enter' where a test parts the walk; take each callee by a contract of your own. -/
set_option maxRecDepth 100000 in
set_option maxHeartbeats 1000000 in
theorem walk (a0 : Int) (a1 : ByteArray) (w0 : (Lit.int .i64 a0).wf = true) (w1 : a1.size ≤ maxLen) (w : World) :
    Calls Tryd.prog 3 #[.int .i64 a0, .string a1] w fun e w' => e = .returned (.bool true) ∧ Below w.heap.size w w' := by
  have b0 := wf_i64 w0
  have HT := Lib.hid (fun v => refParseTh_any a1 v w1)
  have HR := Lib.hid (fun v => refParseRv_any a1 v w1)
  have PT := Lib.hid (fun v => parseTh_all a1 v)
  have PR := Lib.hid (fun v => parseRv_all a1 v)
  generalize HexaMath.parseTh a1.data.toList = o at *
  generalize HexaMath.parseRv a1.data.toList = q at *
  by_cases hin : 0 ≤ a0 ∧ a0 < 72057594037927936
  · obtain ⟨h0, h1⟩ := hin
    have H1 := Lib.hid (fun v => th_int a0 v h0 h1)
    have H2 := Lib.hid (fun v => rv_int a0 v h0 h1)
    obtain ⟨n, rfl⟩ := Int.eq_ofNat_of_zero_le h0
    rw [Int.toNat_natCast] at H1 H2
    have hn : n < 72057594037927936 := by omega
    have t1 : ((thB n).toList == (thB n).toList) = true := by simp
    have t2 : ((rvB n).toList == (rvB n).toList) = true := by simp
    go_enter Tryd.func3, Tryd.ntmps3
    go_wp2_with fail
    refine (H1.out _).mono ?_
    rintro e v1 ⟨rfl, hb1⟩
    go_wp2_with fail
    refine (H2.out _).mono ?_
    rintro e v2 ⟨rfl, hb2⟩
    have hw := below_on hb1 hb2
    clear hb1 hb2
    go_wp2_with fail
    refine (PT.out _).mono ?_
    rintro e v3 ⟨rfl, rfl⟩
    go_wp2_with fail
    refine (PR.out _).mono ?_
    rintro e v3 ⟨rfl, rfl⟩
    go_wp2_with fail
    refine (draw_in _ _ h0 h1).mono ?_
    rintro e v3 ⟨rfl, rfl⟩
    go_wp2_with fail
    refine (refTh_any n _ hn).mono ?_
    rintro e v3 ⟨rfl, rfl⟩
    go_wp2_with fail
    refine (refRv_any n _ hn).mono ?_
    rintro e v3 ⟨rfl, rfl⟩
    go_wp2_with fail
    refine (eight_calls _).mono ?_
    rintro e v3 ⟨rfl, rfl⟩
    go_wp2_with fail
    refine (HT.out _).mono ?_
    rintro e v3 ⟨rfl, hb3⟩
    have hw3 := below_on hw hb3
    clear hw hb3 HT PT PR H1 H2 h0 h1 hn t1 t2 b0
    cases o with
    | none =>
      rw [orNone_none, pV_none, pE_none]
      go_wp2_with fail
      refine (HR.out _).mono ?_
      rintro e v4 ⟨rfl, hb4⟩
      have hw4 := below_on hw3 hb4
      clear hw3 hb4 HR
      cases q with
      | none =>
        rw [orNone_none, pV_none, pE_none]
        go_wp2
        go_ret
        exact ⟨rfl, hw4⟩
      | some m =>
        rw [orNone_some, pV_some, pE_some]
        have t6 : ((m : Int) == (m : Int)) = true := by simp
        go_wp2
        go_ret
        exact ⟨rfl, hw4⟩
    | some k =>
      rw [orNone_some, pV_some, pE_some]
      have t5 : ((k : Int) != (k : Int)) = false := by simp
      go_wp2_with fail
      refine (HR.out _).mono ?_
      rintro e v4 ⟨rfl, hb4⟩
      have hw4 := below_on hw3 hb4
      clear hw3 hb4 HR
      cases q with
      | none =>
        rw [orNone_none, pV_none, pE_none]
        go_wp2
        go_ret
        exact ⟨rfl, hw4⟩
      | some m =>
        rw [orNone_some, pV_some, pE_some]
        have t6 : ((m : Int) == (m : Int)) = true := by simp
        go_wp2
        go_ret
        exact ⟨rfl, hw4⟩
  · have hout : a0 < 0 ∨ 72057594037927936 ≤ a0 := by omega
    have H1 := Lib.hid (fun v => th_bad a0 v hout)
    have H2 := Lib.hid (fun v => rv_bad a0 v hout)
    have H3 := Lib.hid (fun v => draw_out a0 v hout)
    clear hin hout
    go_enter Tryd.func3, Tryd.ntmps3
    go_wp2_with fail
    refine (H1.out _).mono ?_
    rintro e v1 ⟨rfl, rfl⟩
    go_wp2_with fail
    refine (H2.out _).mono ?_
    rintro e v2 ⟨rfl, rfl⟩
    have hw := Below.refl w.heap.size w
    go_wp2_with fail
    refine (PT.out _).mono ?_
    rintro e v3 ⟨rfl, rfl⟩
    go_wp2_with fail
    refine (PR.out _).mono ?_
    rintro e v3 ⟨rfl, rfl⟩
    go_wp2_with fail
    refine (H3.out _).mono ?_
    rintro e v3 ⟨rfl, rfl⟩
    go_wp2_with fail
    refine (eight_calls _).mono ?_
    rintro e v3 ⟨rfl, rfl⟩
    go_wp2_with fail
    refine (HT.out _).mono ?_
    rintro e v3 ⟨rfl, hb3⟩
    have hw3 := below_on hw hb3
    clear hw hb3 HT PT PR H1 H2
    cases o with
    | none =>
      rw [orNone_none, pV_none, pE_none]
      go_wp2_with fail
      refine (HR.out _).mono ?_
      rintro e v4 ⟨rfl, hb4⟩
      have hw4 := below_on hw3 hb4
      clear hw3 hb4 HR
      cases q with
      | none =>
        rw [orNone_none, pV_none, pE_none]
        go_wp2
        go_ret
        exact ⟨rfl, hw4⟩
      | some m =>
        rw [orNone_some, pV_some, pE_some]
        have t6 : ((m : Int) == (m : Int)) = true := by simp
        go_wp2
        go_ret
        exact ⟨rfl, hw4⟩
    | some k =>
      rw [orNone_some, pV_some, pE_some]
      have t5 : ((k : Int) != (k : Int)) = false := by simp
      go_wp2_with fail
      refine (HR.out _).mono ?_
      rintro e v4 ⟨rfl, hb4⟩
      have hw4 := below_on hw3 hb4
      clear hw3 hb4 HR
      cases q with
      | none =>
        rw [orNone_none, pV_none, pE_none]
        go_wp2
        go_ret
        exact ⟨rfl, hw4⟩
      | some m =>
        rw [orNone_some, pV_some, pE_some]
        have t6 : ((m : Int) == (m : Int)) = true := by simp
        go_wp2
        go_ret
        exact ⟨rfl, hw4⟩

/-! ### THE ROW's STEP: WRITTEN OUT: LEAVE IT -/
set_option maxRecDepth 100000 in
theorem lifted (os : Os) (started : os.Started) (H : Type) (enc : TypeId × Value → H) :
    ReturnsInHanded {} Tryd.checked os 3 .any (fun w args => (Rows.hexaSaysSpec.pre enc Tryd.prog Tryd.f3 Rows.hexaSaysRow.domain false w args ∧ laidMetH Tryd.prog Rows.hexaSaysRow.laid w) ∧ sizedMet enc Tryd.prog Tryd.f3 (OpenSpec.ofChange Rows.hexaSaysSpec) false w args) (Rows.hexaSaysSpec.post enc Tryd.prog Tryd.f3 false true false false) := by
  refine returnsInHanded_of_change_and (C := Tryd.checked) (X := fun w _ => laidMetH Tryd.prog Rows.hexaSaysRow.laid w) (fun _ _ _ hh h => h.of_heap hh) own started (by kernel_rfl) Tryd.func3
    (ChangeSpec.witness_shaped (enc := enc) (C := Tryd.checked) (os := os) (X := fun w _ => laidMetH Tryd.prog Rows.hexaSaysRow.laid w) false (World.laidAll Tryd.prog os Rows.hexaSaysRow.laid) #[.int .i64 0, .string ByteArray.empty] 8 (World.laidAll_os _ _ _)
      (World.shaped_of_ZipB (by kernel_rfl) (by kernel_rfl)) (by kernel_rfl) (by kernel_rfl) (by kernel_rfl)
      (by rw [MakeChecks.laidMetH_plain _ _ _ (by kernel_rfl)]; exact laidMet_laidAll _ (by kernel_rfl) (by kernel_rfl))) ?_
  intro W base args ds gs before hval0 hW hcnd _ hL _
  have hval : ∀ (j : Nat) t v, Tryd.f3.params[j]? = some t → args[j]? = some v → Value.okWide Tryd.prog W .any base t v := hval0
  have hW' := hW
  obtain ⟨p, q, hA0, hV, rfl, hfz, hnd⟩ := hW
  have hA : DataW.TrodAll enc Tryd.prog W 0 (fun _ => true) true Tryd.f3.params.toList args.toList ds p := hA0
  rw [Tryd.params3] at hA hval
  obtain ⟨v0, vs0, d0, ds0, p0, q0, hargs, rfl, rfl, h0, r0⟩ := trodAll_cons hA
  obtain ⟨v1, vs1, d1, ds1, p1, q1, rfl, rfl, rfl, h1, r1⟩ := trodAll_cons r0
  obtain ⟨rfl, rfl, rfl⟩ := trodAll_nil r1
  obtain rfl : args = #[v0, v1] := by cases args; simp_all
  obtain ⟨rfl, rfl⟩ := trodVars_none hV
  obtain ⟨a0, rfl, rfl, rfl, w0⟩ := open_int Tryd.underlying3 (hval 0 3 v0 rfl rfl) h0
  obtain ⟨a1, rfl, rfl, rfl, w1⟩ := open_string Tryd.underlying9 (hval 1 9 v1 rfl rfl) h1
  clear hA0 hval0
  simp only [List.append_nil] at hW'
  refine (walk a0 a1 w0 w1 W).mono fun e W' ⟨he, hg⟩ => ?_
  subst he
  exact ⟨_, rfl, _, _, _, [], _, [], hW', (trodAll_cons_mk (shut_bool Tryd.underlying4 _) trodAll_mk0), (trodAll_cons_mk (shut_int Tryd.underlying3 w0) (trodAll_cons_mk (shut_string Tryd.underlying9 w1) trodAll_mk0)), rfl, hg.frame _, fun h => by cases h⟩

theorem over : Rows.hexaSaysRow.holds Tryd.pinned (OpenSpec.ofChange Rows.hexaSaysSpec) :=
  OpenClaim.holds_of_wide 3 Tryd.f3 rfl rfl rfl rfl rfl rfl rfl ⟨rfl, rfl, rfl, rfl, rfl⟩ rfl rfl rfl rfl rfl (by kernel_rfl) Tryd.func3 (by kernel_rfl)
    (of_decide_eq_true (by kernel_rfl)) (by unfold Func.isWrapper; first | (rw [if_pos (by decide +kernel)]; kernel_rfl) | (rw [if_neg (by decide +kernel)]; exact ⟨rfl, rfl⟩))
    (fun os started H enc _ => lifted os started H enc)

/-- ████ THE CARD ████ -/
theorem proved : Rows.HexaSaysCardSaid :=
  Claim7.holds_tied_plain_at .later [] _ _ _ _ over (fun _ h => by cases h) (by kernel_rfl) (fun _ h => by cases h) hexaSays_row_tie rfl ⟨rfl, rfl⟩ (by kernel_rfl) rfl
    (fun f fn hf hfn => by
      obtain rfl : f = 3 := Option.some.inj ((show Tryd.prog.funcNamed "cullender/cullaw.HexaSays" = some 3 by kernel_rfl).symm.trans hf) |>.symm
      obtain rfl : fn = Tryd.f3 := (Option.some.inj (Tryd.func3.symm.trans hfn)).symm
      exact ⟨by kernel_rfl, fun j t ht => by
        rw [Tryd.params3] at ht
        have hm : t ∈ [3, 9] := by have := Array.mem_of_getElem? ht; simp at this ⊢; omega
        have hall : ([3, 9].all fun u => !Tryd.prog.wantsStandIn u) = true := by kernel_rfl
        exact (show Tryd.prog.wantsStandIn t = false by simpa using List.all_eq_true.1 hall t hm)⟩)
    (by kernel_rfl)
#print axioms proved
end Go.Proofs.YtmaflidkejapoaaDoor.hexaSays
