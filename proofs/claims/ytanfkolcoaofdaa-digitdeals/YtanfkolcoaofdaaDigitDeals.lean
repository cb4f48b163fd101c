/-
  'Rows.DigitDealsSaid' is proved: Deal answers what the document says, for all arguments. No condition.
-/
import Derived.Test.YtanfkolcoaofdaaRows
import Derived.Test.YtanfkolcoaofdaaShapes
import Derived.Test.YtanfkolcoaofdaaRefDeal
import Derived.Test.YtanfkolcoaofdaaEqualInts
import Derived.Test.YtanfkolcoaofdaaLit
import Derived.WalkKit
import Derived.ProofKit
import Derived.OpenShut
import Derived.ShutString
import Derived.ChangeOld
import Derived.Below
namespace Go.Proofs.Ytanfkolcoaofdaa.digitDeals
open Go.ChangeShapes Go.WideShapes Go.ChangeAt Go.RowKit
open Go.ChangeMaps (open_string shut_string)
set_option linter.unusedVariables false

theorem own : ownKnob Try.prog.godebug = none := by kernel_rfl
theorem laidOut : laidOutB Try.prog = true := by kernel_rfl

open Digit
theorem deals_start : dealTo [7, 8] [0, 0] 2 = [8, 7] := by decide +kernel
theorem deals_draws : DrawsOk [0, 0] := drawsB_ok.1 (by decide)

set_option maxRecDepth 100000 in
set_option maxHeartbeats 2000000 in
theorem walk (x0 : Sl Int) (x1 : Sl Int) (w : World) (t0 : Tab w x0.a x0.len x0.cap 1 (x0.l.map iC)) (b0 : x0.len * 8 ≤ 140737488351232) (o0 : ∀ z ∈ x0.l, wfI z) (t1 : Tab w x1.a x1.len x1.cap 1 (x1.l.map iC)) (b1 : x1.len * 8 ≤ 140737488351232) (o1 : ∀ z ∈ x1.l, wfI z) :
    Calls Try.prog 4 #[.slice x0.a x0.len x0.cap, .slice x1.a x1.len x1.cap] w fun e w' => e = .returned (.bool true) ∧ Below w.heap.size w w' := by
  obtain ⟨a, len, cap, L⟩ := x0
  obtain ⟨a', len', cap', DS⟩ := x1
  have HT := Lib.hid t0
  have HT' := Lib.hid t1
  clear t0 o0 b0 t1 o1 b1
  have C1 := Lib.hid (deal_any a a' len cap len' cap' L DS w HT.out HT'.out)
  go_enter Try.func4, Try.ntmps4
  go_wp2_with fail
  refine C1.out.mono ?_
  rintro e v1 ⟨s1, rfl, hO1, hb1⟩
  obtain ⟨a1, cap1, rfl, hT1⟩ := hO1.tab
  have HS : Hid (Tab v1 a1 (dealP L DS).1.length cap1 1 ((dealP L DS).1.map iC)) := by rw [List.length_map] at hT1; exact Lib.hid hT1
  rw [List.length_map]
  have HB1 := Lib.hid hb1
  clear C1 hO1 hT1 hb1
  have C0 := deal_ok (some ⟨v1.heap.size, 0, none⟩) (some ⟨v1.heap.size + 1, 0, none⟩) 2 2 2 2 [7, 8] [0, 0] ((v1.alloc (.cells #[.int .i64 7, .int .i64 8] 3)).alloc (.cells #[.int .i64 0, .int .i64 0] 3))
    ((tab_lit v1 3 1 2 ([(7 : Int), 8].map iC) #[.int .i64 7, .int .i64 8] rfl rfl (rows_of iC_len _) (by decide) _ rfl).below ((Below.refl _ _).alloc (Nat.le_refl _) _)) (tab_lit _ 3 1 2 ([(0 : Int), 0].map iC) #[.int .i64 0, .int .i64 0] rfl rfl (rows_of iC_len _) (by decide) _ (by simp)) (by decide) rfl deals_draws
  rw [show ([7, 8] : List Int).length = 2 from rfl, deals_start] at C0
  have C0 := Lib.hid C0
  have hb0 : Below v1.heap.size v1 ((v1.alloc (.cells #[.int .i64 7, .int .i64 8] 3)).alloc (.cells #[.int .i64 0, .int .i64 0] 3)) := ((Below.refl _ _).alloc (Nat.le_refl _) _).alloc (by simp) _
  have HB0 := Lib.hid hb0
  clear hb0
  go_wp2_with fail
  refine C0.out.mono ?_
  rintro e v2 ⟨s2, rfl, hO2, hb2⟩
  clear C0
  obtain ⟨a2, cap2, rfl, hT2⟩ := hO2.tab
  have E2 := Lib.hid (equal_ints a2 (some ⟨v2.heap.size, 0, none⟩) 2 cap2 2 2 [8, 7] [8, 7] (v2.alloc (.cells #[.int .i64 8, .int .i64 7] 3))
    (hT2.below ((Below.refl _ _).alloc (Nat.le_refl _) _)) (tab_lit _ _ 1 2 ([(8 : Int), 7].map iC) #[.int .i64 8, .int .i64 7] rfl rfl (rows_of iC_len _) (by decide) _ rfl) true (by simp))
  have HB2 := Lib.hid (below_on (below_on HB0.out hb2) ((Below.refl v2.heap.size v2).alloc (Nat.le_refl _) (.cells #[.int .i64 8, .int .i64 7] 3)))
  clear hO2 hT2 hb2 HB0
  go_wp2_with fail
  refine E2.out.mono ?_
  rintro e v3 ⟨rfl, hb3⟩
  have HB3 := Lib.hid (below_on HB2.out hb3)
  have HS3 := Lib.hid (HS.out.below HB3.out)
  have HBw := Lib.hid (below_on HB1.out HB3.out)
  have HT3 := Lib.hid (HT.out.below HBw.out)
  have HT3' := Lib.hid (HT'.out.below HBw.out)
  have D := Lib.hid (refDraws_any a a' len cap len' cap' L DS v3 HT3.out HT3'.out)
  clear E2 HB2 hb3 HB3 HS HB1
  have hP2 : (dealP L DS).2 = dealE L DS := rfl
  rw [hP2]
  clear hP2
  by_cases hc : dealE L DS = 0
  · have hP1 : (dealP L DS).1 = dealTo L DS L.length := by unfold dealP; rw [if_pos hc]
    have hfact : L.length ≤ 12 ∧ DS.length = L.length ∧ DrawsOk DS := by
      unfold dealE at hc
      split at hc
      · cases hc
      · split at hc
        · cases hc
        · split at hc
          · exact ⟨by omega, by omega, drawsB_ok.1 (by assumption)⟩
          · cases hc
    have l1 := HT3.out.hlen
    have l2 := HT3'.out.hlen
    rw [List.length_map] at l1 l2
    obtain rfl : len' = len := by omega
    have hlen : len' ≤ 12 := by omega
    have I := Lib.hid (refDeal_any len' a a' cap cap' L DS v3 hlen HT3.out HT3'.out hfact.2.2)
    have hdl := deal_len L DS L.length
    rw [l1] at hP1 hdl
    rw [hP1, hdl] at HS3
    rw [hP1, hdl]
    rw [hc] at D ⊢
    have HDL := Lib.hid hdl
    clear hP1 hfact l1 l2 hdl hc
    generalize dealTo L DS len' = X at *
    go_wp2_with fail
    refine D.out.mono ?_
    rintro e v4 ⟨rfl, rfl⟩
    go_wp2_with fail
    refine I.out.mono ?_
    rintro e v4 ⟨s4, rfl, hO4, hb4⟩
    obtain ⟨a4, cap4, rfl, hT4⟩ := hO4.tab
    rw [List.length_map, HDL.out] at hT4 ⊢
    have E := Lib.hid (equal_ints a1 a4 len' cap1 len' cap4 X X v4 (HS3.out.below hb4) hT4 true (by simp))
    clear hO4 hT4 I D
    go_wp2_with fail
    refine E.out.mono ?_
    rintro e v5 ⟨rfl, hb5⟩
    go_wp2
    go_ret
    exact ⟨rfl, below_on (below_on HBw.out hb4) hb5⟩
  · have hP1 : (dealP L DS).1 = [] := by unfold dealP; rw [if_neg hc]
    rw [hP1]
    have t1 : ((dealE L DS : Int) != 0) = true := by rw [bne_iff_ne]; exact hc
    have t2 : ((dealE L DS : Int) == dealE L DS) = true := by simp
    clear hP1 hc HS3
    generalize dealE L DS = c at *
    go_wp2_with fail
    refine D.out.mono ?_
    rintro e v4 ⟨rfl, rfl⟩
    go_wp2
    go_ret
    exact ⟨rfl, HBw.out⟩

set_option maxRecDepth 100000 in
theorem lifted (os : Os) (started : os.Started) (H : Type) (enc : TypeId × Value → H) :
    ReturnsInHanded {} Try.checked os 4 .any (Rows.digitDealsSpec.pre6 enc Try.prog Try.f4 Rows.digitDealsRow.domain false) (Rows.digitDealsSpec.post enc Try.prog Try.f4 false true false false) := by
  refine returnsInHanded_of_change_sized (C := Try.checked) own started (by kernel_rfl) Try.func4
    (ChangeSpec.witness6 (enc := enc) (C := Try.checked) false ⟨#[], #[.slice none 0 0, .slice none 0 0], []⟩ 8 (by kernel_rfl) (by kernel_rfl) (by kernel_rfl) (by kernel_rfl)) ?_
  intro W base args ds gs before hval0 hW hcnd hsz0 _
  have hval : ∀ (j : Nat) t v, Try.f4.params[j]? = some t → args[j]? = some v → Value.okWide Try.prog W .any base t v := hval0
  have hW' := hW
  obtain ⟨p, q, hA0, hV, rfl, hfz, hnd⟩ := hW
  have hA : DataW.TrodAll enc Try.prog W 0 (fun _ => true) true Try.f4.params.toList args.toList ds p := hA0
  have hsz : (DataW.weightsEach Try.prog (Try.f4.params.toList ++ Rows.digitDealsSpec.plain.varTypes Try.prog) (ds ++ gs)).all (· ≤ reachBytes) = true := hsz0
  rw [Try.params4] at hA hval hsz
  obtain ⟨v0, vs0, d0, ds0, p0, q0, hargs, rfl, rfl, h0, r0⟩ := trodAll_cons hA
  obtain ⟨v1, vs1, d1, ds1, p1, q1, rfl, rfl, rfl, h1, r1⟩ := trodAll_cons r0
  obtain ⟨rfl, rfl, rfl⟩ := trodAll_nil r1
  obtain rfl : args = #[v0, v1] := by cases args; simp_all
  obtain ⟨rfl, rfl⟩ := trodVars_none hV
  have k0 := h0
  have L0 := light_of hsz (j := 0) (t := 22) (d := d0) rfl rfl
  have lt0 : ∀ x ∈ p0, x.block < W.heap.size := by obtain ⟨m, hm⟩ := k0; exact DataW.trod_lt m _ _ _ hm
  obtain ⟨a0, len0, cap0, rfl⟩ := okWide_slice Try.underlying22 (hval 0 22 v0 rfl rfl)
  obtain ⟨n0, f0⟩ := trod_slice_of Try.underlying22 h0
  have F0 := And.intro f0 L0
  obtain ⟨x0, e0, t0, b0, o0⟩ := el_slice (w := W) (k := 1) iC wfI (by decide) Try.underlying22 (by kernel_rfl) (el_int Try.underlying3) (B := 8) (by kernel_rfl) _ _ _ F0.1 F0.2
  simp only [slC, List.cons.injEq, Value.slice.injEq, and_true] at e0
  obtain ⟨rfl, rfl, rfl⟩ := e0
  have k1 := h1
  have L1 := light_of hsz (j := 1) (t := 22) (d := d1) rfl rfl
  have lt1 : ∀ x ∈ p1, x.block < W.heap.size := by obtain ⟨m, hm⟩ := k1; exact DataW.trod_lt m _ _ _ hm
  obtain ⟨a1, len1, cap1, rfl⟩ := okWide_slice Try.underlying22 (hval 1 22 v1 rfl rfl)
  obtain ⟨n1, f1⟩ := trod_slice_of Try.underlying22 h1
  have F1 := And.intro f1 L1
  obtain ⟨x1, e1, t1, b1, o1⟩ := el_slice (w := W) (k := 1) iC wfI (by decide) Try.underlying22 (by kernel_rfl) (el_int Try.underlying3) (B := 8) (by kernel_rfl) _ _ _ F1.1 F1.2
  simp only [slC, List.cons.injEq, Value.slice.injEq, and_true] at e1
  obtain ⟨rfl, rfl, rfl⟩ := e1
  clear hA0 hval0
  refine (walk x0 x1 W t0 b0 o0 t1 b1 o1).mono fun e W' ⟨he, hg⟩ => ?_
  subst he
  exact ⟨_, rfl, _, _, _, [], _, [], hW', trodAll_mk1 (shut_bool Try.underlying4 _), (trodAll_cons_mk (Below.trod laidOut (by kernel_rfl) (of_decide_eq_true (by kernel_rfl)) k0 hg lt0) (trodAll_cons_mk (Below.trod laidOut (by kernel_rfl) (of_decide_eq_true (by kernel_rfl)) k1 hg lt1) trodAll_mk0)), rfl, hg.frame _, fun h => by cases h⟩

theorem over : Rows.digitDealsRow.holds Try.pinned (OpenSpec.ofChange Rows.digitDealsSpec) :=
  OpenClaim.holds_of_wide 4 Try.f4 rfl rfl rfl rfl rfl rfl rfl ⟨rfl, rfl, rfl, rfl, rfl⟩ rfl rfl rfl rfl rfl (by kernel_rfl) Try.func4 (by kernel_rfl)
    (of_decide_eq_true (by kernel_rfl)) (by unfold Func.isWrapper; first | (rw [if_pos (by decide +kernel)]; kernel_rfl) | (rw [if_neg (by decide +kernel)]; exact ⟨rfl, rfl⟩))
    (fun os started H enc _ => lifted os started H enc)

/-- ████ THE STATEMENT ████ -/
theorem proved : Rows.DigitDealsSaid :=
  over
#print axioms proved
end Go.Proofs.Ytanfkolcoaofdaa.digitDeals
