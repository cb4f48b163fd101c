/-
  'Rows.DigitTurnedSaid' is proved: the ranks of an order and of the order turned round add up to the number of orders less one. No condition.
  The frame of this proof was written by the kit's proof-skeleton.mjs.
-/
import Derived.Test.YtanfkolcoaofdaaRows
import Derived.Test.YtanfkolcoaofdaaWithin
import Derived.Test.YtanfkolcoaofdaaDigitOrder
import Derived.Test.YtanfkolcoaofdaaRefFact
import Derived.Test.YtanfkolcoaofdaaLit
import Derived.Deep.LoopGhost
import Derived.WalkKit
import Derived.ProofKit
import Derived.ChangeOld
import Derived.Below
import Derived.OpenShut
import Derived.ShutString
namespace Go.Proofs.Ytanfkolcoaofdaa.digitTurned
open Go.ChangeShapes Go.WideShapes Go.ChangeAt Go.RowKit
open Go.ChangeMaps (open_string shut_string)
set_option linter.unusedVariables false      -- a walk need not use every 'w<i>' (that an integer argument fits its kind)

theorem own : ownKnob Try.prog.godebug = none := by kernel_rfl

open Digit
theorem turn_start : rankOf [2, 1, 0] = 5 := by decide +kernel
theorem turn_ok3 : Ok [2, 1, 0] := ⟨by decide, by decide⟩

/-! ### STEP 1: THE WALK: the Go text returns true. 'Grown w w'': the world has at most new blocks (Derived/RowKit3.lean). Part the cases AHEAD of 'go_enter' where a test parts the walk; take each callee by a contract of your own. -/
set_option maxRecDepth 100000 in
set_option maxHeartbeats 2000000 in
theorem walk (a0 : Int) (a1 : Int) (w0 : (Lit.int .i64 a0).wf = true) (w1 : (Lit.int .i64 a1).wf = true) (w : World) :
    Calls Try.prog 12 #[.int .i64 a0, .int .i64 a1] w fun e w' => e = .returned (.bool true) ∧ Below w.heap.size w w' := by
  have b0 := wf_i64 w0
  have b1 := wf_i64 w1
  have d0 := withI_bd a0 13 (by omega)
  have hbL : Below w.heap.size w (w.alloc (.cells #[.int .i64 2, .int .i64 1, .int .i64 0] 3)) := (Below.refl _ _).alloc (Nat.le_refl _) _
  have C0 := digitRank_ok (some ⟨w.heap.size, 0, none⟩) 3 3 [2, 1, 0] (w.alloc (.cells #[.int .i64 2, .int .i64 1, .int .i64 0] 3)) (tab_lit _ _ 1 3 ([(2 : Int), 1, 0].map iC) #[.int .i64 2, .int .i64 1, .int .i64 0] rfl rfl (rows_of iC_len _) (by decide) _ rfl) (by decide) turn_ok3
  rw [turn_start] at C0
  have C0 := Lib.hid C0
  go_enter Try.func12, Try.ntmps12
  go_wp2_with fail
  refine C0.out.mono ?_
  rintro e v1 ⟨rfl, rfl⟩
  clear C0
  have HB := Lib.hid hbL
  clear hbL
  generalize (w.alloc (.cells #[.int .i64 2, .int .i64 1, .int .i64 0] 3)) = v1 at *
  go_wp2_with fail
  refine (within_int _ _ _ b0 (by omega) (by omega)).mono ?_
  rintro e v3 ⟨rfl, rfl⟩
  generalize withI a0 13 = n at *
  obtain ⟨n, rfl⟩ := Int.eq_ofNat_of_zero_le d0.1
  have hn : n ≤ 12 := by omega
  clear d0
  have F1 := Lib.hid (refFact_any n hn)
  have hB1 := fact_pos n
  have hB2 := fact_max hn
  have HS := Lib.hid (fun i (hi : i < fact n) => order_ok n i hn hi)
  have HN := Lib.hid (fun i (hi : i < fact n) => orderOf_ok (n := n) hi)
  have HT := Lib.hid (fun (l : List Int) (hl : l.length = n) (hk : Ok l) => show rankOf l + rankOf (l.map (fun k => (n : Int) - 1 - k)) + 1 = fact n by have := rank_turn ((n : Int) - 1) l hk.1; rw [hl] at this; exact this)
  generalize fact n = B at *
  go_wp2_with fail
  refine (F1.out _).mono ?_
  rintro e v3 ⟨rfl, rfl⟩
  have d1 := withI_bd a1 (B : Int) (by omega)
  go_wp2_with fail
  refine (within_int _ _ _ b1 (by omega) (by omega)).mono ?_
  rintro e v4 ⟨rfl, rfl⟩
  generalize withI a1 (B : Int) = i at *
  obtain ⟨i, rfl⟩ := Int.eq_ofNat_of_zero_le d1.1
  have hi : i < B := by omega
  clear d1 F1
  have S1 := Lib.hid (HS.out i hi)
  obtain ⟨hl, hk⟩ := HN.out i hi
  generalize orderOf n i = X at *
  have hsum := HT.out X hl hk
  have hok := turn_ok hk
  rw [hl] at hok
  have HX := Lib.hid (And.intro hl (And.intro hk (And.intro hok hsum)))
  clear HS HN HT hl hk hok hsum
  go_wp2_with fail
  refine (S1.out _).mono ?_
  rintro e v4 ⟨s4, rfl, hO4, hb4⟩
  obtain ⟨a4, cap4, rfl, hT4⟩ := hO4.tab
  have l4 : (X.map iC).length = n := by rw [List.length_map]; exact HX.out.1
  rw [l4] at hT4 ⊢
  have HT4 := Lib.hid hT4
  have HB4 := Lib.hid (below_on HB.out hb4)
  clear hO4 hb4 hT4 l4 S1 HB
  go_wp2
  go_loopg [10, 44] n (fun g v i wr => ∃ k : Nat, k + g = n ∧ i = .int .i64 k ∧ Hid (Own wr v4.heap.size 3 1 v (((X.take k).map (fun k => (n : Int) - 1 - k)).map iC)) ∧ Below v4.heap.size v4 wr)
  case atStart => exact ⟨0, by omega, rfl, Own.nil _ _ _ _, Below.refl _ _⟩
  case round =>
    obtain ⟨k, hk0, rfl, HO2, hb⟩ := hrel
    have HJ := Lib.hid hk0
    have hk : k ≤ n := by omega
    clear hk0
    have hsz := hb.size
    by_cases hlt : k < n
    · obtain ⟨x, hx⟩ : ∃ x, X[k]? = some x := ⟨_, List.getElem?_eq_getElem (by rw [HX.out.1]; exact hlt)⟩
      obtain ⟨bb, off, ha, hbs, h0⟩ := HT4.out.one hb (map_get hx)
      have hxr := HX.out.2.1.2 x (List.mem_of_getElem? hx)
      rw [HX.out.1] at hxr
      have hO := HO2.out
      have HNo : Hid (((X.take (k + 1)).map (fun k => (n : Int) - 1 - k)).map iC = ((X.take k).map (fun k => (n : Int) - 1 - k)).map iC ++ [[.int .i64 ((n : Int) - 1 - x)]]) := by
        rw [List.take_add_one, hx, List.map_append, List.map_append]; exact Lib.hid rfl
      have hlen2 : (((X.take k).map (fun k => (n : Int) - 1 - k)).map iC).length ≤ k := by rw [List.length_map, List.length_map, List.length_take]; omega
      subst ha
      clear hx
      generalize ((X.take k).map (fun k => (n : Int) - 1 - k)).map iC = R at *
      go_wp2_with (first | (at_builtin; refine wpList_append_rows _ rfl _ _ 22 rfl v4.heap.size 3 _ 1 8 Try.underlying22 info_int rfl (by decide) _ R rfl (hO.alloc _) ⟨wr.heap.size, 0, none⟩ 1 1 [[.int .i64 ((n : Int) - 1 - x)]] rfl rfl (by simp) (one_row _ _ _ _ (by simp)) (by simp [Value.oneCell']) (by omega) (by decide) (by simp; omega) ?_; intro v' w8 hO8 hg8))
      go_roundg (n - (k + 1))
      case measure => have := HJ.out; omega
      case rel => exact ⟨k + 1, by omega, by go_num, by rw [HNo.out]; exact hO8, (hO.alloc _).under (hb.alloc hsz _) (Nat.le_refl _) (by simp; omega) hg8⟩
    · have hO := HO2.out
      rw [List.take_of_length_le (by rw [HX.out.1]; omega)] at hO
      obtain ⟨a5, cap5, e5, hT5⟩ := hO.tab
      have C1 := Lib.hid (digitRank_ok a4 n cap4 X wr (HT4.out.below hb) (by rw [HX.out.1]; exact hn) HX.out.2.1)
      have l5 : ((X.map (fun k => (n : Int) - 1 - k)).map iC).length = n := by rw [List.length_map, List.length_map]; exact HX.out.1
      rw [l5] at e5 hT5
      have C2 := Lib.hid (digitRank_ok a5 n cap5 (X.map (fun k => (n : Int) - 1 - k)) wr hT5 (by rw [List.length_map, HX.out.1]; exact hn) HX.out.2.2.1)
      have hs := HX.out.2.2.2
      generalize rankOf (X.map (fun k => (n : Int) - 1 - k)) = q at *
      generalize rankOf X = p at *
      subst e5
      have t1 : ((p : Int) + (q : Int) == (B : Int) - 1) = true := by rw [beq_iff_eq]; omega
      have hpq : p + q ≤ 479001600 := by omega
      clear hs hO hT5 l5 HO2
      go_wp2_with fail
      refine C1.out.mono ?_
      rintro e w8 ⟨rfl, rfl⟩
      go_wp2_with fail
      refine C2.out.mono ?_
      rintro e w8 ⟨rfl, rfl⟩
      go_wp2
      go_ret
      exact ⟨rfl, below_on HB4.out hb⟩

/-! ### THE ROW's STEP: WRITTEN OUT: LEAVE IT -/
set_option maxRecDepth 100000 in
theorem lifted (os : Os) (started : os.Started) (H : Type) (enc : TypeId × Value → H) :
    ReturnsInHanded {} Try.checked os 12 .any (Rows.digitTurnedSpec.pre6 enc Try.prog Try.f12 Rows.digitTurnedRow.domain false) (Rows.digitTurnedSpec.post enc Try.prog Try.f12 false true false false) := by
  refine returnsInHanded_of_change (C := Try.checked) own started (by kernel_rfl) Try.func12
    (ChangeSpec.witness6 (enc := enc) (C := Try.checked) false ⟨#[], #[.int .i64 0, .int .i64 0], []⟩ 8 (by kernel_rfl) (by kernel_rfl) (by kernel_rfl) (by kernel_rfl)) ?_
  intro W base args ds gs before hval0 hW hcnd _
  have hval : ∀ (j : Nat) t v, Try.f12.params[j]? = some t → args[j]? = some v → Value.okWide Try.prog W .any base t v := hval0
  have hW' := hW
  obtain ⟨p, q, hA0, hV, rfl, hfz, hnd⟩ := hW
  have hA : DataW.TrodAll enc Try.prog W 0 (fun _ => true) true Try.f12.params.toList args.toList ds p := hA0
  rw [Try.params12] at hA hval
  obtain ⟨v0, vs0, d0, ds0, p0, q0, hargs, rfl, rfl, h0, r0⟩ := trodAll_cons hA
  obtain ⟨v1, vs1, d1, ds1, p1, q1, rfl, rfl, rfl, h1, r1⟩ := trodAll_cons r0
  obtain ⟨rfl, rfl, rfl⟩ := trodAll_nil r1
  obtain rfl : args = #[v0, v1] := by cases args; simp_all
  obtain ⟨rfl, rfl⟩ := trodVars_none hV
  obtain ⟨a0, rfl, rfl, rfl, w0⟩ := open_int Try.underlying3 (hval 0 3 v0 rfl rfl) h0
  obtain ⟨a1, rfl, rfl, rfl, w1⟩ := open_int Try.underlying3 (hval 1 3 v1 rfl rfl) h1
  clear hA0 hval0
  simp only [List.append_nil] at hW'
  refine (walk a0 a1 w0 w1 W).mono fun e W' ⟨he, hg⟩ => ?_
  subst he
  exact ⟨_, rfl, _, _, _, [], _, [], hW', (trodAll_cons_mk (shut_bool Try.underlying4 _) trodAll_mk0), (trodAll_cons_mk (shut_int Try.underlying3 w0) (trodAll_cons_mk (shut_int Try.underlying3 w1) trodAll_mk0)), rfl, hg.frame _, fun h => by cases h⟩

theorem over : Rows.digitTurnedRow.holds Try.pinned (OpenSpec.ofChange Rows.digitTurnedSpec) :=
  OpenClaim.holds_of_wide 12 Try.f12 rfl rfl rfl rfl rfl rfl rfl ⟨rfl, rfl, rfl, rfl, rfl⟩ rfl rfl rfl rfl rfl (by kernel_rfl) Try.func12 (by kernel_rfl)
    (of_decide_eq_true (by kernel_rfl)) (by unfold Func.isWrapper; first | (rw [if_pos (by decide +kernel)]; kernel_rfl) | (rw [if_neg (by decide +kernel)]; exact ⟨rfl, rfl⟩))
    (fun os started H enc _ => lifted os started H enc)

/-- ████ THE STATEMENT ████ -/
theorem proved : Rows.DigitTurnedSaid :=
  over
#print axioms proved
end Go.Proofs.Ytanfkolcoaofdaa.digitTurned
