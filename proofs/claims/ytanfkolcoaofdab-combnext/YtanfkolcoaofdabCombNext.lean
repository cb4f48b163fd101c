/-
  'Rows.CombNextSaid' is proved: of the rows at two ranks that follow each other, the first has the lesser number at the last place at which they differ. No condition.
  The frame of this proof was written by the kit's proof-skeleton.mjs.
-/
import Derived.Test.YtanfkolcoaofdabRows
import Derived.Test.YtanfkolcoaofdabWithin
import Derived.Test.YtanfkolcoaofdabCombSome
import Derived.Test.YtanfkolcoaofdabEqualInts
import Derived.Test.YtanfkolcoaofdabLit
import Derived.Deep.LoopGhost
import Derived.BigQuiet
import Derived.WalkKit
import Derived.ProofKit
import Derived.ChangeOld
import Derived.Below
import Derived.OpenShut
import Derived.ShutString
namespace Go.Proofs.Ytanfkolcoaofdab.combNext
open Go.ChangeShapes Go.WideShapes Go.ChangeAt Go.RowKit
open Go.ChangeMaps (open_string shut_string)
set_option linter.unusedVariables false      -- a walk need not use every 'w<i>' (that an integer argument fits its kind)

theorem own : ownKnob Try.prog.godebug = none := by kernel_rfl

open Binom
theorem next_start : nn (someOf 2 30 1) = [0, 2] := by decide +kernel
theorem b302 : 1 < binom 30 2 := by decide +kernel
theorem two_or (k : Nat) (h1 : 1 ≤ k) (h2 : k ≤ 29) : 2 ≤ binom 30 k := by
  have e : binom 30 k = binom 29 (k - 1) + binom 29 k := by
    obtain ⟨j, rfl⟩ : ∃ j, k = j + 1 := ⟨k - 1, by omega⟩
    rfl
  have := pos 29 (k - 1) (by omega)
  have := pos 29 k h2
  omega
theorem nn_get {m : List Nat} {i x : Nat} (h : m[i]? = some x) : (nn m)[i]? = some (x : Int) := by
  unfold nn
  rw [List.getElem?_map, h]
  rfl

/-! ### STEP 1: THE WALK: the Go text returns true. 'Grown w w'': the world has at most new blocks (Derived/RowKit3.lean). Part the cases AHEAD of 'go_enter' where a test parts the walk; take each callee by a contract of your own. -/
set_option maxRecDepth 100000 in
set_option maxHeartbeats 2000000 in
theorem walk (a0 : Int) (a1 : Int) (w0 : (Lit.int .i64 a0).wf = true) (w1 : (Lit.int .i64 a1).wf = true) (w : World) :
    Calls Try.prog 4 #[.int .i64 a0, .int .i64 a1] w fun e w' => e = .returned (.bool true) ∧ Below w.heap.size w w' := by
  have b0 := wf_i64 w0
  have b1 := wf_i64 w1
  have d0 := withI_bd a0 29 (by omega)
  have C0 := some_ok 2 1 (by omega) b302 w
  rw [next_start] at C0
  have C0 := Lib.hid C0
  go_enter Try.func4, Try.ntmps4
  go_wp2_with fail
  refine C0.out.mono ?_
  rintro e v1 ⟨s1, rfl, hO1, hb1⟩
  clear C0
  obtain ⟨a1', cap1, rfl, hT1⟩ := hO1.tab
  have E1 := Lib.hid (equal_ints a1' (some ⟨v1.heap.size, 0, none⟩) 2 cap1 2 2 [0, 2] [0, 2] (v1.alloc (.cells #[.int .i64 0, .int .i64 2] 3))
    (hT1.below ((Below.refl _ _).alloc (Nat.le_refl _) _)) (tab_lit _ _ 1 2 ([(0 : Int), 2].map iC) #[.int .i64 0, .int .i64 2] rfl rfl (rows_of iC_len _) (by decide) _ rfl) true (by simp))
  have HB1 := Lib.hid (below_on hb1 ((Below.refl v1.heap.size v1).alloc (Nat.le_refl _) (.cells #[.int .i64 0, .int .i64 2] 3)))
  clear hO1 hT1 hb1
  go_wp2_with fail
  refine E1.out.mono ?_
  rintro e v2 ⟨rfl, hb2⟩
  have HB2 := Lib.hid (below_on HB1.out hb2)
  clear E1 HB1 hb2
  go_wp2_with fail
  refine (within_int _ _ _ b0 (by omega) (by omega)).mono ?_
  rintro e v3 ⟨rfl, rfl⟩
  generalize withI a0 29 = n at *
  obtain ⟨k, hk⟩ : ∃ k : Nat, 1 + n = (k : Int) := ⟨(1 + n).toNat, by omega⟩
  have hk1 : 1 ≤ k := by omega
  have hk2 : k ≤ 29 := by omega
  clear d0
  have C1 := Lib.hid (ways_ok 30 k (by omega) (by omega))
  have hB1 := two_or k hk1 hk2
  have hB2 := le_max k (Nat.le_refl 30)
  have HS1 := Lib.hid (fun i (hi : i < binom 30 k) => some_ok k i (by omega) hi)
  have HN := Lib.hid (fun i (hi : i + 1 < binom 30 k) => some_next k 30 i hi)
  generalize hBB : binom 30 k = B at *
  clear hBB
  have t1 : ((B : Int) < 2) = False := by simp; omega
  go_wp2_with fail
  refine (C1.out _).mono ?_
  rintro e v3 ⟨rfl, rfl⟩
  clear C1
  have d1 := withI_bd a1 ((B : Int) - 1) (by omega)
  go_wp2_with fail
  refine (within_int _ _ _ b1 (by omega) (by omega)).mono ?_
  rintro e v3 ⟨rfl, rfl⟩
  generalize withI a1 ((B : Int) - 1) = i at *
  obtain ⟨i, rfl⟩ := Int.eq_ofNat_of_zero_le d1.1
  have hi : i + 1 < B := by omega
  clear d1
  have S1 := Lib.hid (HS1.out i (by omega))
  have S2x := HS1.out (i + 1) hi
  rw [show ((i + 1 : Nat) : Int) = (i : Int) + 1 from by omega] at S2x
  have S2 := Lib.hid S2x
  obtain ⟨j0, x, y, hj0, hx, hy, hxy, hall⟩ := HN.out i hi
  have lx := someOf_len k 30 i
  have ly := someOf_len k 30 (i + 1)
  generalize someOf k 30 i = X at *
  generalize someOf k 30 (i + 1) = Y at *
  have HX := Lib.hid (And.intro hx (And.intro hy (And.intro hall (And.intro lx ly))))
  clear hx hy hall lx ly S2x HS1 HN
  go_wp2_with fail
  refine (S1.out _).mono ?_
  rintro e v4 ⟨s4, rfl, hO4, hb4⟩
  obtain ⟨a4, cap4, rfl, hT4⟩ := hO4.tab
  have l4 : ((nn X).map iC).length = k := by rw [List.length_map, nn_len]; exact HX.out.2.2.2.1
  rw [l4] at hT4 ⊢
  have HT4 := Lib.hid hT4
  have HB4 := Lib.hid (below_on HB2.out hb4)
  clear hO4 hb4 hT4 l4 S1
  go_wp2_with fail
  refine (S2.out _).mono ?_
  rintro e v5 ⟨s5, rfl, hO5, hb5⟩
  obtain ⟨a5, cap5, rfl, hT5⟩ := hO5.tab
  have l5 : ((nn Y).map iC).length = k := by rw [List.length_map, nn_len]; exact HX.out.2.2.2.2
  rw [l5] at hT5 ⊢
  have HT5 := Lib.hid hT5
  have HT45 := Lib.hid (HT4.out.below hb5)
  have HB5 := Lib.hid (below_on HB4.out hb5)
  clear hO5 hb5 hT5 l5 S2 HB4 HT4 HB2
  have t2 : ((k : Int) != (k : Int)) = false := by simp
  go_wp2
  go_loopg [13] (k - 1) (fun g z wr => ∃ j : Nat, Hid (j = g) ∧ j < k ∧ j0 ≤ j ∧ z = .int .i64 (j : Nat) ∧ Below v5.heap.size v5 wr)
  case atStart => exact ⟨k - 1, Lib.hid rfl, by omega, by omega, by go_num, Below.refl _ _⟩
  case round =>
    obtain ⟨j, HM, hj, hj1, rfl, hb⟩ := hrel
    obtain ⟨u, hu⟩ : ∃ u, X[j]? = some u := ⟨_, List.getElem?_eq_getElem (by rw [HX.out.2.2.2.1]; exact hj)⟩
    obtain ⟨v, hv⟩ : ∃ v, Y[j]? = some v := ⟨_, List.getElem?_eq_getElem (by rw [HX.out.2.2.2.2]; exact hj)⟩
    obtain ⟨bb1, o1, ha1, hbs1, c1⟩ := HT45.out.one hb (map_get (nn_get hu))
    obtain ⟨bb2, o2, ha2, hbs2, c2⟩ := HT5.out.one hb (map_get (nn_get hv))
    subst ha1 ha2
    by_cases hjj : j = j0
    · have huv : u < v := by
        subst hjj
        rw [HX.out.1] at hu
        rw [HX.out.2.1] at hv
        simp at hu hv
        omega
      clear hu hv
      have t3 : ((u : Int) == (v : Int)) = false := by simp; omega
      have t4 : decide (u < v) = true := by simp; omega
      clear hjj
      by_cases hp : 0 < j
      · have t5 : decide (0 < (j : Int)) = true := by simp; omega
        go_wp2
        go_quiet (fail)
        go_wp2
        go_quiet (fail)
        go_wp2
        go_ret
        exact ⟨rfl, below_on HB5.out (below_drewN (below_drewN hb _) _)⟩
      · have hp2 : j ≤ 0 := by omega
        have t5 : decide (0 < (j : Int)) = false := by simp; omega
        go_wp2
        go_quiet (fail)
        go_wp2
        go_quiet (fail)
        go_wp2
        go_ret
        exact ⟨rfl, below_on HB5.out (below_drewN (below_drewN hb _) _)⟩
    · have huv : u = v := by
        have := HX.out.2.2.1 j (by omega)
        rw [hu, hv] at this
        exact Option.some.inj this
      subst huv
      clear hu hv
      have t3 : ((u : Int) == (u : Int)) = true := by simp
      have hp : 0 < j := by omega
      have t5 : decide (0 < (j : Int)) = true := by simp; omega
      go_wp2
      go_quiet (fail)
      go_wp2
      go_roundg (j - 1)
      case measure => have := HM.out; omega
      case rel => exact ⟨j - 1, Lib.hid rfl, by omega, by omega, by go_num, below_drewN hb _⟩

/-! ### THE ROW's STEP: WRITTEN OUT: LEAVE IT -/
set_option maxRecDepth 100000 in
theorem lifted (os : Os) (started : os.Started) (H : Type) (enc : TypeId × Value → H) :
    ReturnsInHanded {} Try.checked os 4 .any (Rows.combNextSpec.pre6 enc Try.prog Try.f4 Rows.combNextRow.domain false) (Rows.combNextSpec.post enc Try.prog Try.f4 false true false false) := by
  refine returnsInHanded_of_change (C := Try.checked) own started (by kernel_rfl) Try.func4
    (ChangeSpec.witness6 (enc := enc) (C := Try.checked) false ⟨#[], #[.int .i64 0, .int .i64 0], []⟩ 8 (by kernel_rfl) (by kernel_rfl) (by kernel_rfl) (by kernel_rfl)) ?_
  intro W base args ds gs before hval0 hW hcnd _
  have hval : ∀ (j : Nat) t v, Try.f4.params[j]? = some t → args[j]? = some v → Value.okWide Try.prog W .any base t v := hval0
  have hW' := hW
  obtain ⟨p, q, hA0, hV, rfl, hfz, hnd⟩ := hW
  have hA : DataW.TrodAll enc Try.prog W 0 (fun _ => true) true Try.f4.params.toList args.toList ds p := hA0
  rw [Try.params4] at hA hval
  obtain ⟨v0, vs0, d0, ds0, p0, q0, hargs, rfl, rfl, h0, r0⟩ := trodAll_cons hA
  obtain ⟨v1, vs1, d1, ds1, p1, q1, rfl, rfl, rfl, h1, r1⟩ := trodAll_cons r0
  obtain ⟨rfl, rfl, rfl⟩ := trodAll_nil r1
  obtain rfl : args = #[v0, v1] := by cases args; simp_all
  obtain ⟨rfl, rfl⟩ := trodVars_none hV
  obtain ⟨a0, rfl, rfl, rfl, w0⟩ := open_int Try.underlying3 (hval 0 3 v0 rfl rfl) h0
  obtain ⟨a1, rfl, rfl, rfl, w1⟩ := open_int Try.underlying3 (hval 1 3 v1 rfl rfl) h1
  clear hA0 hval0
  simp only [List.append_nil] at hW'
  refine (walk a0 a1 w0 w1 W).mono fun e W' ⟨he, hg⟩ => ?_
  subst he
  exact ⟨_, rfl, _, _, _, [], _, [], hW', (trodAll_cons_mk (shut_bool Try.underlying4 _) trodAll_mk0), (trodAll_cons_mk (shut_int Try.underlying3 w0) (trodAll_cons_mk (shut_int Try.underlying3 w1) trodAll_mk0)), rfl, hg.frame _, fun h => by cases h⟩

theorem over : Rows.combNextRow.holds Try.pinned (OpenSpec.ofChange Rows.combNextSpec) :=
  OpenClaim.holds_of_wide 4 Try.f4 rfl rfl rfl rfl rfl rfl rfl ⟨rfl, rfl, rfl, rfl, rfl⟩ rfl rfl rfl rfl rfl (by kernel_rfl) Try.func4 (by kernel_rfl)
    (of_decide_eq_true (by kernel_rfl)) (by unfold Func.isWrapper; first | (rw [if_pos (by decide +kernel)]; kernel_rfl) | (rw [if_neg (by decide +kernel)]; exact ⟨rfl, rfl⟩))
    (fun os started H enc _ => lifted os started H enc)

/-- ████ THE STATEMENT ████ -/
theorem proved : Rows.CombNextSaid :=
  over
#print axioms proved
end Go.Proofs.Ytanfkolcoaofdab.combNext
