/-
  'Rows.DigitBackSaid' is proved: Rank and Order are inverse to each other, and ranks follow the order of their rows. No condition.
-/
import Derived.Test.YtanfkolcoaofdaaRows
import Derived.Test.YtanfkolcoaofdaaShapes
import Derived.Test.YtanfkolcoaofdaaWithin
import Derived.Test.YtanfkolcoaofdaaDigitOrder
import Derived.Test.YtanfkolcoaofdaaRefFact
import Derived.Test.YtanfkolcoaofdaaEqualInts
import Derived.Test.YtanfkolcoaofdaaCompareInts
import Derived.Test.YtanfkolcoaofdaaLit
import Derived.Deep.DeepCutAuto
import Derived.WalkKit
import Derived.ProofKit
import Derived.OpenShut
import Derived.ShutString
import Derived.ChangeOld
import Derived.Below
namespace Go.Proofs.Ytanfkolcoaofdaa.digitBack
open Go.ChangeShapes Go.WideShapes Go.ChangeAt Go.RowKit
open Go.ChangeMaps (open_string shut_string)
set_option linter.unusedVariables false

theorem own : ownKnob Try.prog.godebug = none := by kernel_rfl
theorem laidOut : laidOutB Try.prog = true := by kernel_rfl

open Digit
theorem back_start : rankOf [1, 0] = 1 := by decide +kernel
theorem back_ok2 : Ok [1, 0] := ⟨by decide, by decide⟩

set_option maxRecDepth 100000 in
set_option maxHeartbeats 2000000 in
theorem walk (x0 : Sl Int) (x1 : Int) (x2 : Int) (x3 : Int) (w : World) (t0 : Tab w x0.a x0.len x0.cap 1 (x0.l.map iC)) (b0 : x0.len * 8 ≤ 140737488351232) (o0 : ∀ z ∈ x0.l, wfI z) (w1 : (Lit.int .i64 x1).wf = true) (w2 : (Lit.int .i64 x2).wf = true) (w3 : (Lit.int .i64 x3).wf = true) :
    Calls Try.prog 6 #[.slice x0.a x0.len x0.cap, .int .i64 x1, .int .i64 x2, .int .i64 x3] w fun e w' => e = .returned (.bool true) ∧ Below w.heap.size w w' := by
  obtain ⟨a, len, cap, L⟩ := x0
  have b1 := wf_i64 w1
  have b2 := wf_i64 w2
  have b3 := wf_i64 w3
  have d0 := withI_bd x1 13 (by omega)
  have HT := Lib.hid t0
  clear t0 o0 b0
  have hbL : Below w.heap.size w (w.alloc (.cells #[.int .i64 1, .int .i64 0] 3)) := (Below.refl _ _).alloc (Nat.le_refl _) _
  have C0 := digitRank_ok (some ⟨w.heap.size, 0, none⟩) 2 2 [1, 0] (w.alloc (.cells #[.int .i64 1, .int .i64 0] 3)) (tab_lit _ _ 1 2 ([(1 : Int), 0].map iC) #[.int .i64 1, .int .i64 0] rfl rfl (rows_of iC_len _) (by decide) _ rfl) (by decide) back_ok2
  rw [back_start] at C0
  have C0 := Lib.hid C0
  go_enter Try.func6, Try.ntmps6
  go_wp2_with fail
  refine C0.out.mono ?_
  rintro e v1 ⟨rfl, rfl⟩
  clear C0
  have HTb := Lib.hid (HT.out.below hbL)
  have HB := Lib.hid hbL
  clear hbL
  generalize (w.alloc (.cells #[.int .i64 1, .int .i64 0] 3)) = v1 at *
  obtain ⟨r1, c1, K1, K2, C1x⟩ : ∃ r1 c1 : Int, (checkD L = 0 → c1 = 0 ∧ L.length ≤ 12 ∧ Ok L ∧ r1 = (rankOf L : Nat)) ∧ (checkD L ≠ 0 → c1 ≠ 0) ∧ Calls Try.prog 15 #[.slice a len cap] v1 (fun e w' => e = .returned (.tuple #[.int .i64 r1, .int .i64 c1]) ∧ v1 = w') := by
    by_cases hc : checkD L = 0
    · obtain ⟨h1, h2⟩ := checkD_zero hc
      exact ⟨_, 0, fun _ => ⟨rfl, h1, h2, rfl⟩, fun h => absurd hc h, digitRank_ok a len cap L v1 HTb.out h1 h2⟩
    · exact ⟨0, _, fun h => absurd h hc, fun _ => hc, digitRank_bad a len cap L v1 HTb.out hc⟩
  have C1 := Lib.hid C1x
  have HK1 := Lib.hid K1
  have HK2 := Lib.hid K2
  clear C1x K1 K2
  go_wp2_with fail
  refine C1.out.mono ?_
  rintro e v2 ⟨rfl, rfl⟩
  clear C1
  go_upto_if 41 with fail
  go_cut [] (fun wx => Below v1.heap.size v1 wx)
  case first =>
    by_cases hc : checkD L = 0
    · obtain ⟨rfl, h1, h2, rfl⟩ := HK1.out hc
      obtain ⟨h3, h4⟩ := orderOf_rank h2
      have S1 := order_ok L.length (rankOf L) h1 h3 v1
      rw [h4] at S1
      have hl := HTb.out.hlen
      rw [List.length_map] at hl
      rw [hl] at S1
      have S1 := Lib.hid S1
      have hR := fact_max h1
      have hR2 : rankOf L ≤ 479001600 := by omega
      have HLL := Lib.hid hl
      clear h1 h2 h3 h4 hl hc HK1 HK2 hR
      generalize rankOf L = r at *
      go_wp2_with fail
      refine S1.out.mono ?_
      rintro e v4 ⟨s4, rfl, hO4, hb4⟩
      obtain ⟨a4, cap4, rfl, hT4⟩ := hO4.tab
      have l4 : (L.map iC).length = len := by rw [List.length_map]; exact HLL.out
      rw [l4] at hT4 ⊢
      have E1 := Lib.hid (equal_ints a4 a len cap4 len cap L L v4 hT4 (HTb.out.below hb4) true (by simp))
      clear hO4 hT4 S1 l4
      go_wp2_with fail
      refine E1.out.mono ?_
      rintro e v5 ⟨rfl, hb5⟩
      go_wp2_with fail
      go_meet
      case rel => exact below_on hb4 hb5
    · have t1 : ((c1 : Int) == 0) = false := by rw [beq_eq_false_iff_ne]; exact HK2.out hc
      clear HK1 HK2 hc
      go_wp2_with fail
      go_meet
      case rel => exact Below.refl _ _
  case rest =>
  have HB2 := Lib.hid (below_on HB.out hcut)
  clear hcut HK1 HK2 HB HTb HT
  go_wp2_with fail
  refine (within_int _ _ _ b1 (by omega) (by omega)).mono ?_
  rintro e v3 ⟨rfl, rfl⟩
  generalize withI x1 13 = n at *
  obtain ⟨n, rfl⟩ := Int.eq_ofNat_of_zero_le d0.1
  have hn : n ≤ 12 := by omega
  clear d0
  have F1 := Lib.hid (refFact_any n hn)
  have hB1 := fact_pos n
  have hB2 := fact_max hn
  have HS := Lib.hid (fun i (hi : i < fact n) => order_ok n i hn hi)
  have HN := Lib.hid (fun i (hi : i < fact n) => And.intro (orderOf_ok (n := n) hi) (rank_orderOf (n := n) hi))
  have HC := Lib.hid (fun i k (hi : i < fact n) (hk : k < fact n) => cmp_orderOf hi hk)
  have S3 := Lib.hid (order_none n (fact n : Int) hn (by omega))
  generalize hBB : fact n = B at *
  clear hBB
  go_wp2_with fail
  refine (F1.out _).mono ?_
  rintro e v3 ⟨rfl, rfl⟩
  have d1 := withI_bd x2 (B : Int) (by omega)
  have d2 := withI_bd x3 (B : Int) (by omega)
  go_wp2_with fail
  refine (within_int _ _ _ b2 (by omega) (by omega)).mono ?_
  rintro e v4 ⟨rfl, rfl⟩
  go_wp2_with fail
  refine (within_int _ _ _ b3 (by omega) (by omega)).mono ?_
  rintro e v4 ⟨rfl, rfl⟩
  generalize withI x2 (B : Int) = i at *
  generalize withI x3 (B : Int) = k at *
  obtain ⟨i, rfl⟩ := Int.eq_ofNat_of_zero_le d1.1
  obtain ⟨k, rfl⟩ := Int.eq_ofNat_of_zero_le d2.1
  have hi : i < B := by omega
  have hk : k < B := by omega
  clear d1 d2 F1
  have S1 := Lib.hid (HS.out i hi)
  have S2 := Lib.hid (HS.out k hk)
  obtain ⟨⟨hl, hok⟩, hrk⟩ := HN.out i hi
  have hl2 := (HN.out k hk).1.1
  have hcmp := HC.out i k hi hk
  generalize orderOf n i = X at *
  generalize orderOf n k = Y at *
  have HX := Lib.hid (And.intro hl (And.intro hl2 (And.intro hok (And.intro hrk hcmp))))
  clear HS HN HC hl hl2 hok hrk hcmp
  go_wp2_with fail
  refine (S1.out _).mono ?_
  rintro e v4 ⟨s4, rfl, hO4, hb4⟩
  obtain ⟨a4, cap4, rfl, hT4⟩ := hO4.tab
  have l4 : (X.map iC).length = n := by rw [List.length_map]; exact HX.out.1
  rw [l4] at hT4 ⊢
  have HB4 := Lib.hid (below_on HB2.out hb4)
  have HT4 := Lib.hid hT4
  clear hO4 hb4 hT4 l4 S1 HB2
  go_wp2_with fail
  refine (S2.out _).mono ?_
  rintro e v5 ⟨s5, rfl, hO5, hb5⟩
  obtain ⟨a5, cap5, rfl, hT5⟩ := hO5.tab
  have l5 : (Y.map iC).length = n := by rw [List.length_map]; exact HX.out.2.1
  rw [l5] at hT5 ⊢
  have HB5 := Lib.hid (below_on HB4.out hb5)
  have HT45 := Lib.hid (HT4.out.below hb5)
  have R1 := digitRank_ok a4 n cap4 X v5 HT45.out (by rw [HX.out.1]; exact hn) HX.out.2.2.1
  rw [HX.out.2.2.2.1] at R1
  have R1 := Lib.hid R1
  have R2 := Lib.hid (compare_ints a4 a5 n cap4 n cap5 X Y v5 HT45.out hT5)
  clear hO5 hb5 hT5 l5 S2 HB4 HT4
  go_wp2_with fail
  refine R1.out.mono ?_
  rintro e v6 ⟨rfl, rfl⟩
  go_wp2_with fail
  refine (S3.out _).mono ?_
  rintro e v6 ⟨rfl, rfl⟩
  go_wp2_with fail
  refine R2.out.mono ?_
  rintro e v6 ⟨rfl, rfl⟩
  have hc := HX.out.2.2.2.2
  generalize cmpL X Y = c at *
  by_cases hik : i < k
  · have hc0 : c < 0 := hc.2 hik
    clear hc
    go_wp2
    go_ret
    exact ⟨rfl, HB5.out⟩
  · have hc0 : 0 ≤ c := by
      rcases Int.lt_or_le c 0 with h | h
      · exact absurd (hc.1 h) hik
      · exact h
    have hki : k ≤ i := by omega
    clear hc hik
    go_wp2
    go_ret
    exact ⟨ret_bool (by rw [show decide (c < 0) = false from decide_eq_false (by omega), show decide (i < k) = false from decide_eq_false (by omega)]; rfl), HB5.out⟩

set_option maxRecDepth 100000 in
theorem lifted (os : Os) (started : os.Started) (H : Type) (enc : TypeId × Value → H) :
    ReturnsInHanded {} Try.checked os 6 .any (Rows.digitBackSpec.pre6 enc Try.prog Try.f6 Rows.digitBackRow.domain false) (Rows.digitBackSpec.post enc Try.prog Try.f6 false true false false) := by
  refine returnsInHanded_of_change_sized (C := Try.checked) own started (by kernel_rfl) Try.func6
    (ChangeSpec.witness6 (enc := enc) (C := Try.checked) false ⟨#[], #[.slice none 0 0, .int .i64 0, .int .i64 0, .int .i64 0], []⟩ 8 (by kernel_rfl) (by kernel_rfl) (by kernel_rfl) (by kernel_rfl)) ?_
  intro W base args ds gs before hval0 hW hcnd hsz0 _
  have hval : ∀ (j : Nat) t v, Try.f6.params[j]? = some t → args[j]? = some v → Value.okWide Try.prog W .any base t v := hval0
  have hW' := hW
  obtain ⟨p, q, hA0, hV, rfl, hfz, hnd⟩ := hW
  have hA : DataW.TrodAll enc Try.prog W 0 (fun _ => true) true Try.f6.params.toList args.toList ds p := hA0
  have hsz : (DataW.weightsEach Try.prog (Try.f6.params.toList ++ Rows.digitBackSpec.plain.varTypes Try.prog) (ds ++ gs)).all (· ≤ reachBytes) = true := hsz0
  rw [Try.params6] at hA hval hsz
  obtain ⟨v0, vs0, d0, ds0, p0, q0, hargs, rfl, rfl, h0, r0⟩ := trodAll_cons hA
  obtain ⟨v1, vs1, d1, ds1, p1, q1, rfl, rfl, rfl, h1, r1⟩ := trodAll_cons r0
  obtain ⟨v2, vs2, d2, ds2, p2, q2, rfl, rfl, rfl, h2, r2⟩ := trodAll_cons r1
  obtain ⟨v3, vs3, d3, ds3, p3, q3, rfl, rfl, rfl, h3, r3⟩ := trodAll_cons r2
  obtain ⟨rfl, rfl, rfl⟩ := trodAll_nil r3
  obtain rfl : args = #[v0, v1, v2, v3] := by cases args; simp_all
  obtain ⟨rfl, rfl⟩ := trodVars_none hV
  have k0 := h0
  have L0 := light_of hsz (j := 0) (t := 22) (d := d0) rfl rfl
  have lt0 : ∀ x ∈ p0, x.block < W.heap.size := by obtain ⟨m, hm⟩ := k0; exact DataW.trod_lt m _ _ _ hm
  obtain ⟨a0, len0, cap0, rfl⟩ := okWide_slice Try.underlying22 (hval 0 22 v0 rfl rfl)
  obtain ⟨n0, f0⟩ := trod_slice_of Try.underlying22 h0
  have F0 := And.intro f0 L0
  obtain ⟨x0, e0, t0, b0, o0⟩ := el_slice (w := W) (k := 1) iC wfI (by decide) Try.underlying22 (by kernel_rfl) (el_int Try.underlying3) (B := 8) (by kernel_rfl) _ _ _ F0.1 F0.2
  simp only [slC, List.cons.injEq, Value.slice.injEq, and_true] at e0
  obtain ⟨rfl, rfl, rfl⟩ := e0
  have k1 := h1
  have L1 := light_of hsz (j := 1) (t := 3) (d := d1) rfl rfl
  have lt1 : ∀ x ∈ p1, x.block < W.heap.size := by obtain ⟨m, hm⟩ := k1; exact DataW.trod_lt m _ _ _ hm
  obtain ⟨x1, rfl, rfl, rfl, w1⟩ := open_int Try.underlying3 (hval 1 3 v1 rfl rfl) h1
  have k2 := h2
  have L2 := light_of hsz (j := 2) (t := 3) (d := d2) rfl rfl
  have lt2 : ∀ x ∈ p2, x.block < W.heap.size := by obtain ⟨m, hm⟩ := k2; exact DataW.trod_lt m _ _ _ hm
  obtain ⟨x2, rfl, rfl, rfl, w2⟩ := open_int Try.underlying3 (hval 2 3 v2 rfl rfl) h2
  have k3 := h3
  have L3 := light_of hsz (j := 3) (t := 3) (d := d3) rfl rfl
  have lt3 : ∀ x ∈ p3, x.block < W.heap.size := by obtain ⟨m, hm⟩ := k3; exact DataW.trod_lt m _ _ _ hm
  obtain ⟨x3, rfl, rfl, rfl, w3⟩ := open_int Try.underlying3 (hval 3 3 v3 rfl rfl) h3
  clear hA0 hval0
  refine (walk x0 x1 x2 x3 W t0 b0 o0 w1 w2 w3).mono fun e W' ⟨he, hg⟩ => ?_
  subst he
  exact ⟨_, rfl, _, _, _, [], _, [], hW', trodAll_mk1 (shut_bool Try.underlying4 _), (trodAll_cons_mk (Below.trod laidOut (by kernel_rfl) (of_decide_eq_true (by kernel_rfl)) k0 hg lt0) (trodAll_cons_mk (Below.trod laidOut (by kernel_rfl) (of_decide_eq_true (by kernel_rfl)) k1 hg lt1) (trodAll_cons_mk (Below.trod laidOut (by kernel_rfl) (of_decide_eq_true (by kernel_rfl)) k2 hg lt2) (trodAll_cons_mk (Below.trod laidOut (by kernel_rfl) (of_decide_eq_true (by kernel_rfl)) k3 hg lt3) trodAll_mk0)))), rfl, hg.frame _, fun h => by cases h⟩

theorem over : Rows.digitBackRow.holds Try.pinned (OpenSpec.ofChange Rows.digitBackSpec) :=
  OpenClaim.holds_of_wide 6 Try.f6 rfl rfl rfl rfl rfl rfl rfl ⟨rfl, rfl, rfl, rfl, rfl⟩ rfl rfl rfl rfl rfl (by kernel_rfl) Try.func6 (by kernel_rfl)
    (of_decide_eq_true (by kernel_rfl)) (by unfold Func.isWrapper; first | (rw [if_pos (by decide +kernel)]; kernel_rfl) | (rw [if_neg (by decide +kernel)]; exact ⟨rfl, rfl⟩))
    (fun os started H enc _ => lifted os started H enc)

/-- ████ THE STATEMENT ████ -/
theorem proved : Rows.DigitBackSaid :=
  over
#print axioms proved
end Go.Proofs.Ytanfkolcoaofdaa.digitBack
