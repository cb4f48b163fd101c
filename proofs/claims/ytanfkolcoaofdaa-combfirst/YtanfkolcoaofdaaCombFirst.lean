/-
  'Rows.CombFirstSaid' is proved: the first ranks are those of the rows of the least numbers. No condition.
  The frame of this proof was written by the kit's proof-skeleton.mjs.
-/
import Derived.Test.YtanfkolcoaofdaaRows
import Derived.Test.YtanfkolcoaofdaaWithin
import Derived.Test.YtanfkolcoaofdaaCombSome
import Derived.Test.YtanfkolcoaofdaaEqualInts
import Derived.Test.YtanfkolcoaofdaaLit
import Derived.WalkKit
import Derived.ProofKit
import Derived.ChangeOld
import Derived.Below
import Derived.OpenShut
import Derived.ShutString
namespace Go.Proofs.Ytanfkolcoaofdaa.combFirst
open Go.ChangeShapes Go.WideShapes Go.ChangeAt Go.RowKit
open Go.ChangeMaps (open_string shut_string)
set_option linter.unusedVariables false      -- a walk need not use every 'w<i>' (that an integer argument fits its kind)

theorem own : ownKnob Try.prog.godebug = none := by kernel_rfl

open Binom
theorem first_start : nn (someOf 2 30 2) = [1, 2] := by decide +kernel
theorem b302 : 2 < binom 30 2 := by decide +kernel

/-! ### STEP 1: THE WALK: the Go text returns true. 'Grown w w'': the world has at most new blocks (Derived/RowKit3.lean). Part the cases AHEAD of 'go_enter' where a test parts the walk; take each callee by a contract of your own. -/
set_option maxRecDepth 100000 in
set_option maxHeartbeats 2000000 in
theorem walk (a0 : Int) (a1 : Int) (a2 : Int) (w0 : (Lit.int .i64 a0).wf = true) (w1 : (Lit.int .i64 a1).wf = true) (w2 : (Lit.int .i64 a2).wf = true) (w : World) :
    Calls Try.prog 11 #[.int .i64 a0, .int .i64 a1, .int .i64 a2] w fun e w' => e = .returned (.bool true) ∧ Below w.heap.size w w' := by
  have b0 := wf_i64 w0
  have b1 := wf_i64 w1
  have b2 := wf_i64 w2
  have d0 := withI_bd a0 31 (by omega)
  have C0 := some_ok 2 2 (by omega) b302 w
  rw [first_start] at C0
  have C0 := Lib.hid C0
  go_enter Try.func11, Try.ntmps11
  go_wp2_with fail
  refine C0.out.mono ?_
  rintro e v1 ⟨s1, rfl, hO1, hb1⟩
  clear C0
  obtain ⟨a1', cap1, rfl, hT1⟩ := hO1.tab
  have E1 := Lib.hid (equal_ints a1' (some ⟨v1.heap.size, 0, none⟩) 2 cap1 2 2 [1, 2] [1, 2] (v1.alloc (.cells #[.int .i64 1, .int .i64 2] 3))
    (hT1.below ((Below.refl _ _).alloc (Nat.le_refl _) _)) (tab_lit _ _ 1 2 ([(1 : Int), 2].map iC) #[.int .i64 1, .int .i64 2] rfl rfl (rows_of iC_len _) (by decide) _ rfl) true (by simp))
  have HB1 := Lib.hid (below_on hb1 ((Below.refl v1.heap.size v1).alloc (Nat.le_refl _) (.cells #[.int .i64 1, .int .i64 2] 3)))
  clear hO1 hT1 hb1
  go_wp2_with fail
  refine E1.out.mono ?_
  rintro e v2 ⟨rfl, hb2⟩
  have HB2 := Lib.hid (below_on HB1.out hb2)
  clear E1 HB1 hb2
  go_wp2_with fail
  refine (within_int _ _ _ b0 (by omega) (by omega)).mono ?_
  rintro e v3 ⟨rfl, rfl⟩
  generalize withI a0 31 = n at *
  obtain ⟨n, rfl⟩ := Int.eq_ofNat_of_zero_le d0.1
  have hn : n ≤ 30 := by omega
  clear d0
  have d1 := withI_bd a1 ((n : Int) + 1) (by omega)
  go_wp2_with fail
  refine (within_int _ _ _ b1 (by omega) (by omega)).mono ?_
  rintro e v3 ⟨rfl, rfl⟩
  generalize withI a1 ((n : Int) + 1) = k at *
  obtain ⟨k, rfl⟩ := Int.eq_ofNat_of_zero_le d1.1
  have hk : k ≤ n := by omega
  clear d1
  have C1 := Lib.hid (ways_ok n k hn hk)
  have C2 := Lib.hid (ways_ok 30 k (by omega) (by omega))
  have hB1 := pos 30 k (by omega)
  have hB2 := le_max k (Nat.le_refl 30)
  have hF := le_max k hn
  have HS1 := Lib.hid (fun i (hi : i < binom 30 k) => some_ok k i (by omega) hi)
  have HN := Lib.hid (fun i (hi : i < binom 30 k) j (hj : k = j + 1) => by rw [hj] at hi; exact And.intro (some_below (n := n) hi) (show (someOf (j + 1) 30 i)[j]? = some (lastOf (j + 1) i (30 - 1)) by rw [someOf, List.getElem?_append_right (by rw [someOf_len]; omega), someOf_len]; simp))
  generalize hBB : binom 30 k = B at *
  clear hBB
  go_wp2_with fail
  refine (C1.out _).mono ?_
  rintro e v3 ⟨rfl, rfl⟩
  clear C1
  go_wp2_with fail
  refine (C2.out _).mono ?_
  rintro e v3 ⟨rfl, rfl⟩
  clear C2
  have d2 := withI_bd a2 (B : Int) (by omega)
  go_wp2_with fail
  refine (within_int _ _ _ b2 (by omega) (by omega)).mono ?_
  rintro e v3 ⟨rfl, rfl⟩
  generalize withI a2 (B : Int) = i at *
  obtain ⟨i, rfl⟩ := Int.eq_ofNat_of_zero_le d2.1
  have hi : i < B := by omega
  clear d2
  have S1 := Lib.hid (HS1.out i (by omega))
  have HL := Lib.hid (someOf_len k 30 i)
  go_wp2_with fail
  refine (S1.out _).mono ?_
  rintro e v4 ⟨s4, rfl, hO4, hb4⟩
  obtain ⟨a4, cap4, rfl, hT4⟩ := hO4.tab
  have l4 : ((nn (someOf k 30 i)).map iC).length = k := by rw [List.length_map, nn_len]; exact HL.out
  rw [l4] at hT4 ⊢
  have HT4 := Lib.hid hT4
  have HB4 := Lib.hid (below_on HB2.out hb4)
  clear hO4 hb4 hT4 l4 S1 HS1
  rcases k with _ | k
  · have t1 : (((0 : Nat) : Int) == 0) = true := by simp
    clear HN HT4
    generalize binom n 0 = F at *
    go_wp2
    go_ret
    exact ⟨rfl, HB4.out⟩
  · obtain ⟨hn1, hn2⟩ := HN.out i hi k rfl
    generalize lastOf (k + 1) i (30 - 1) = x at *
    have hx : (nn (someOf (k + 1) 30 i))[k]? = some (x : Int) := by unfold nn; rw [List.getElem?_map, hn2]; rfl
    obtain ⟨bb1, o1, ha1, hbs1, c1⟩ := HT4.out.one (Below.refl _ _) (map_get hx)
    subst ha1
    have t1 : (((k + 1 : Nat) : Int) == 0) = false := by rw [beq_eq_false_iff_ne]; omega
    have t2 : (((k + 1 : Nat) : Int) == ((k + 1 : Nat) : Int)) = true := by simp
    have e1 : (((k + 1 : Nat) : Int) - 1) = (k : Int) := by omega
    clear HN hx hn2 HT4 HL
    generalize binom n (k + 1) = F at *
    by_cases hxn : x < n
    · have hiF := hn1.1 hxn
      clear hn1
      go_wp2
      go_ret
      exact ⟨rfl, HB4.out⟩
    · have hiF : F ≤ i := by
        rcases Nat.lt_or_ge i F with h | h
        · exact absurd (hn1.2 h) hxn
        · exact h
      have hxn' : n ≤ x := by omega
      clear hn1 hxn
      go_wp2
      go_ret
      exact ⟨ret_bool (by rw [show decide (x < n) = false from decide_eq_false (by omega), show decide (i < F) = false from decide_eq_false (by omega)]; simp), HB4.out⟩

/-! ### THE ROW's STEP: WRITTEN OUT: LEAVE IT -/
set_option maxRecDepth 100000 in
theorem lifted (os : Os) (started : os.Started) (H : Type) (enc : TypeId × Value → H) :
    ReturnsInHanded {} Try.checked os 11 .any (Rows.combFirstSpec.pre6 enc Try.prog Try.f11 Rows.combFirstRow.domain false) (Rows.combFirstSpec.post enc Try.prog Try.f11 false true false false) := by
  refine returnsInHanded_of_change (C := Try.checked) own started (by kernel_rfl) Try.func11
    (ChangeSpec.witness6 (enc := enc) (C := Try.checked) false ⟨#[], #[.int .i64 0, .int .i64 0, .int .i64 0], []⟩ 8 (by kernel_rfl) (by kernel_rfl) (by kernel_rfl) (by kernel_rfl)) ?_
  intro W base args ds gs before hval0 hW hcnd _
  have hval : ∀ (j : Nat) t v, Try.f11.params[j]? = some t → args[j]? = some v → Value.okWide Try.prog W .any base t v := hval0
  have hW' := hW
  obtain ⟨p, q, hA0, hV, rfl, hfz, hnd⟩ := hW
  have hA : DataW.TrodAll enc Try.prog W 0 (fun _ => true) true Try.f11.params.toList args.toList ds p := hA0
  rw [Try.params11] at hA hval
  obtain ⟨v0, vs0, d0, ds0, p0, q0, hargs, rfl, rfl, h0, r0⟩ := trodAll_cons hA
  obtain ⟨v1, vs1, d1, ds1, p1, q1, rfl, rfl, rfl, h1, r1⟩ := trodAll_cons r0
  obtain ⟨v2, vs2, d2, ds2, p2, q2, rfl, rfl, rfl, h2, r2⟩ := trodAll_cons r1
  obtain ⟨rfl, rfl, rfl⟩ := trodAll_nil r2
  obtain rfl : args = #[v0, v1, v2] := by cases args; simp_all
  obtain ⟨rfl, rfl⟩ := trodVars_none hV
  obtain ⟨a0, rfl, rfl, rfl, w0⟩ := open_int Try.underlying3 (hval 0 3 v0 rfl rfl) h0
  obtain ⟨a1, rfl, rfl, rfl, w1⟩ := open_int Try.underlying3 (hval 1 3 v1 rfl rfl) h1
  obtain ⟨a2, rfl, rfl, rfl, w2⟩ := open_int Try.underlying3 (hval 2 3 v2 rfl rfl) h2
  clear hA0 hval0
  simp only [List.append_nil] at hW'
  refine (walk a0 a1 a2 w0 w1 w2 W).mono fun e W' ⟨he, hg⟩ => ?_
  subst he
  exact ⟨_, rfl, _, _, _, [], _, [], hW', (trodAll_cons_mk (shut_bool Try.underlying4 _) trodAll_mk0), (trodAll_cons_mk (shut_int Try.underlying3 w0) (trodAll_cons_mk (shut_int Try.underlying3 w1) (trodAll_cons_mk (shut_int Try.underlying3 w2) trodAll_mk0))), rfl, hg.frame _, fun h => by cases h⟩

theorem over : Rows.combFirstRow.holds Try.pinned (OpenSpec.ofChange Rows.combFirstSpec) :=
  OpenClaim.holds_of_wide 11 Try.f11 rfl rfl rfl rfl rfl rfl rfl ⟨rfl, rfl, rfl, rfl, rfl⟩ rfl rfl rfl rfl rfl (by kernel_rfl) Try.func11 (by kernel_rfl)
    (of_decide_eq_true (by kernel_rfl)) (by unfold Func.isWrapper; first | (rw [if_pos (by decide +kernel)]; kernel_rfl) | (rw [if_neg (by decide +kernel)]; exact ⟨rfl, rfl⟩))
    (fun os started H enc _ => lifted os started H enc)

/-- ████ THE STATEMENT ████ -/
theorem proved : Rows.CombFirstSaid :=
  over
#print axioms proved
end Go.Proofs.Ytanfkolcoaofdaa.combFirst
