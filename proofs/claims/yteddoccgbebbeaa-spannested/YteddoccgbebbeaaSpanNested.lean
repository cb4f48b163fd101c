/-
  'Rows.SpanNestedSaid' is proved: a greater random value keeps all that a smaller one keeps. No condition.
-/
import Derived.Test.YteddoccgbebbeaaRows
import Derived.Test.YteddoccgbebbeaaShapes
import Derived.Test.YteddoccgbebbeaaSpanKept
import Derived.Test.YteddoccgbebbeaaKeepSpans
import Derived.Test.YteddoccgbebbeaaDraw
import Derived.Test.YteddoccgbebbeaaEqualBools
import Derived.Test.YteddoccgbebbeaaLit
import Derived.Deep.DeepCutAuto
import Derived.Deep.LoopGhost
import Derived.WalkKit
import Derived.ProofKit
import Derived.OpenShut
import Derived.ShutString
import Derived.ChangeOld
import Derived.Below
namespace Go.Proofs.Yteddoccgbebbeaa.spanNested
open Go.ChangeShapes Go.WideShapes Go.ChangeAt Go.RowKit
open Go.ChangeMaps (open_string shut_string)
set_option linter.unusedVariables false

theorem own : ownKnob Try.prog.godebug = none := by kernel_rfl
theorem laidOut : laidOutB Try.prog = true := by kernel_rfl

open Span
theorem lit_ok : spansE [((-1 : Int), (1 : Int))] = 0 := by decide
theorem lit_kept1 : keptL [((-1 : Int), (1 : Int))] 36028797018963968 = [true] := by decide

set_option maxRecDepth 100000 in
set_option maxHeartbeats 2000000 in
theorem walk (x0 : Sl (Sl Int)) (x1 : Int) (x2 : Int) (w : World) (t0 : Tab w x0.a x0.len x0.cap 1 (x0.l.map slC)) (b0 : x0.len * 24 ≤ 140737488351232) (o0 : ∀ z ∈ x0.l, (fun y : Sl Int => Tab w y.a y.len y.cap 1 (y.l.map iC) ∧ y.len * 8 ≤ 140737488351232 ∧ ∀ z ∈ y.l, wfI z) z) (w1 : (Lit.int .i64 x1).wf = true) (w2 : (Lit.int .i64 x2).wf = true) :
    Calls Try.prog 8 #[.slice x0.a x0.len x0.cap, .int .i64 x1, .int .i64 x2] w fun e w' => e = .returned (.bool true) ∧ Below w.heap.size w w' := by
  obtain ⟨a, len, cap, L⟩ := x0
  have hm := t0.hmax
  have hle := t0.hle
  unfold maxLen at hm
  have b1 := wf_i64 w1
  have b2 := wf_i64 w2
  have hb0 : Below w.heap.size w (w.alloc (.cells #[.int .i64 (-1), .int .i64 1] 44)) := (Below.refl _ _).alloc (Nat.le_refl _) _
  have C0 := kept_ok (some ⟨w.heap.size, 0, none⟩) 1 1 [((-1 : Int), (1 : Int))] 36028797018963968 _ (tab_lit w 44 2 1 ([((-1 : Int), (1 : Int))].map iiC) #[.int .i64 (-1), .int .i64 1] rfl rfl (rows_of iiC_len _) (by decide) _ rfl) lit_ok (by decide) (by decide)
  rw [lit_kept1] at C0
  have C0 := Lib.hid C0
  have CS := Lib.hid (fun W (hb : Below w.heap.size w W) => spans_any a len cap L 20 W (t0.below hb) (fun z hz => ⟨((o0 z hz).1).below hb, (o0 z hz).2.2⟩) (by decide) (by decide))
  have HOK : Hid (spansE (spansOf 20 (L.take 40)) = 0) := Lib.hid (spansOf_ok (by decide) (by decide) (by rw [List.length_take]; omega))
  have hsl : (spansOf 20 (L.take 40)).length ≤ 40 := by rw [spansOf_len, List.length_take]; omega
  clear t0 o0
  generalize spansOf 20 (L.take 40) = s at *
  have HR := Lib.hid (fun W => draw_int x1 W b1)
  have dr := withI_bd x1 72057594037927936 (by omega)
  generalize withI x1 72057594037927936 = r at *
  obtain ⟨r, rfl⟩ := Int.eq_ofNat_of_zero_le dr.1
  have hr : r < 72057594037927936 := by omega
  have HU := Lib.hid (fun W => within_int x2 (72057594037927936 - (r : Int)) W b2 (by omega) (by omega))
  have du := withI_bd x2 (72057594037927936 - (r : Int)) (by omega)
  generalize withI x2 (72057594037927936 - (r : Int)) = u at *
  obtain ⟨u, rfl⟩ := Int.eq_ofNat_of_zero_le du.1
  have hu : r + u < 72057594037927936 := by omega
  clear dr du b1 b2 w1 w2
  go_enter Try.func8, Try.ntmps8
  go_wp2_with fail
  refine C0.out.mono ?_
  rintro e v1 ⟨s1, rfl, hO1, hb1⟩
  have hb1' := below_on hb0 hb1
  obtain ⟨q1, cap1, rfl, hT1⟩ := hO1.tab
  have E1 := Lib.hid (equal_bools q1 (some ⟨v1.heap.size, 0, none⟩) 1 cap1 1 1 [true] [true] (v1.alloc (.cells #[.bool true] 4)) (hT1.below ((Below.refl _ _).alloc (Nat.le_refl _) _)) (tab_lit v1 4 1 1 ([true].map bC) #[.bool true] rfl rfl (rows_of bC_len _) (by decide) _ rfl) true (by simp))
  have HB1 := Lib.hid (hb1'.alloc hb1'.size (.cells #[.bool true] 4))
  clear hb0 hb1 hb1' hO1 hT1 C0
  go_wp2_with fail
  refine E1.out.mono ?_
  rintro e v2 ⟨rfl, hb2⟩
  have HB2 := Lib.hid (below_on HB1.out hb2)
  clear HB1 hb2 E1
  go_wp2_with fail
  refine (CS.out _ HB2.out).mono ?_
  rintro e v3 ⟨s3, rfl, hO3, hb3⟩
  obtain ⟨q3, cap3, rfl, hT3⟩ := hO3.tab
  rw [List.length_map] at hT3 ⊢
  obtain ⟨n, hn⟩ : ∃ n, s.length = n := ⟨_, rfl⟩
  rw [hn] at hT3 hsl ⊢
  have HT3 := Lib.hid hT3
  have HB3 := Lib.hid (below_on HB2.out hb3)
  have HN := Lib.hid hn
  clear HB2 hb3 hO3 hT3 CS hn
  go_wp2_with fail
  refine (HR.out _).mono ?_
  rintro e w4 ⟨rfl, rfl⟩
  have C4 := Lib.hid (kept_ok q3 n cap3 s r v3 HT3.out HOK.out (by omega) (by omega))
  go_wp2_with fail
  refine C4.out.mono ?_
  rintro e v5 ⟨s5, rfl, hO5, hb5⟩
  obtain ⟨q5, cap5, rfl, hT5⟩ := hO5.tab
  rw [List.length_map, keptL_len, HN.out] at hT5 ⊢
  have HT5 := Lib.hid hT5
  have HB5 := Lib.hid hb5
  clear hO5 hT5 hb5 HR C4
  have C6 := Lib.hid (kept_ok q3 n cap3 s ((r : Int) + (u : Int)) v5 (HT3.out.below HB5.out) HOK.out (by omega) (by omega))
  go_wp2_with fail
  refine (HU.out _).mono ?_
  rintro e w6 ⟨rfl, rfl⟩
  go_wp2_with fail
  refine C6.out.mono ?_
  rintro e v7 ⟨s7, rfl, hO7, hb7⟩
  obtain ⟨q7, cap7, rfl, hT7⟩ := hO7.tab
  rw [List.length_map, keptL_len, HN.out] at hT7 ⊢
  have HT7 := Lib.hid hT7
  have HT57 := Lib.hid (HT5.out.below hb7)
  have HB7 := Lib.hid (below_on HB3.out (below_on HB5.out hb7))
  have t1 : ((n : Int) != (n : Int)) = false := by simp
  clear hO7 hT7 hb7 HT5 HB5 HB3 HU C6
  go_wp2_with fail
  clear t1
  go_loopg [72] n (fun g i wr => ∃ k : Nat, k + g = n ∧ i = .int .i64 k ∧ wr = v7)
  case atStart => exact ⟨0, by omega, rfl, rfl⟩
  case round =>
    obtain ⟨k, hk0, rfl, rfl⟩ := hrel
    have HJ := Lib.hid hk0
    have hk : k ≤ n := by omega
    clear hk0
    by_cases hlt : k < n
    · obtain ⟨x, hx⟩ : ∃ x, s[k]? = some x := ⟨_, List.getElem?_eq_getElem (by rw [HN.out]; exact hlt)⟩
      obtain ⟨c1, o1, ha1, hbs1, d1⟩ := HT57.out.one (Below.refl _ _) (map_get (keptL_get (r := (r : Int)) hx))
      obtain ⟨c2, o2, ha2, hbs2, d2⟩ := HT7.out.one (Below.refl _ _) (map_get (keptL_get (r := (r : Int) + (u : Int)) hx))
      subst ha1 ha2
      clear hx
      by_cases ht : thr x.2 ≤ (r : Int)
      · rw [show decide (thr x.2 ≤ (r : Int)) = true from decide_eq_true ht] at d1
        rw [show decide (thr x.2 ≤ (r : Int) + (u : Int)) = true from decide_eq_true (by omega)] at d2
        clear ht
        go_wp2_with fail
        go_roundg (n - (k + 1))
        case measure => have := HJ.out; omega
        case rel => exact ⟨k + 1, by omega, by go_num, rfl⟩
      · rw [show decide (thr x.2 ≤ (r : Int)) = false from decide_eq_false ht] at d1
        clear ht d2
        go_wp2_with fail
        go_roundg (n - (k + 1))
        case measure => have := HJ.out; omega
        case rel => exact ⟨k + 1, by omega, by go_num, rfl⟩
    · obtain rfl : k = n := by omega
      go_wp2
      go_ret
      exact ⟨rfl, HB7.out⟩

set_option maxRecDepth 100000 in
theorem lifted (os : Os) (started : os.Started) (H : Type) (enc : TypeId × Value → H) :
    ReturnsInHanded {} Try.checked os 8 .any (Rows.spanNestedSpec.pre6 enc Try.prog Try.f8 Rows.spanNestedRow.domain false) (Rows.spanNestedSpec.post enc Try.prog Try.f8 false true false false) := by
  refine returnsInHanded_of_change_sized (C := Try.checked) own started (by kernel_rfl) Try.func8
    (ChangeSpec.witness6 (enc := enc) (C := Try.checked) false ⟨#[], #[.slice none 0 0, .int .i64 0, .int .i64 0], []⟩ 8 (by kernel_rfl) (by kernel_rfl) (by kernel_rfl) (by kernel_rfl)) ?_
  intro W base args ds gs before hval0 hW hcnd hsz0 _
  have hval : ∀ (j : Nat) t v, Try.f8.params[j]? = some t → args[j]? = some v → Value.okWide Try.prog W .any base t v := hval0
  have hW' := hW
  obtain ⟨p, q, hA0, hV, rfl, hfz, hnd⟩ := hW
  have hA : DataW.TrodAll enc Try.prog W 0 (fun _ => true) true Try.f8.params.toList args.toList ds p := hA0
  have hsz : (DataW.weightsEach Try.prog (Try.f8.params.toList ++ Rows.spanNestedSpec.plain.varTypes Try.prog) (ds ++ gs)).all (· ≤ reachBytes) = true := hsz0
  rw [Try.params8] at hA hval hsz
  obtain ⟨v0, vs0, d0, ds0, p0, q0, hargs, rfl, rfl, h0, r0⟩ := trodAll_cons hA
  obtain ⟨v1, vs1, d1, ds1, p1, q1, rfl, rfl, rfl, h1, r1⟩ := trodAll_cons r0
  obtain ⟨v2, vs2, d2, ds2, p2, q2, rfl, rfl, rfl, h2, r2⟩ := trodAll_cons r1
  obtain ⟨rfl, rfl, rfl⟩ := trodAll_nil r2
  obtain rfl : args = #[v0, v1, v2] := by cases args; simp_all
  obtain ⟨rfl, rfl⟩ := trodVars_none hV
  have k0 := h0
  have L0 := light_of hsz (j := 0) (t := 57) (d := d0) rfl rfl
  have lt0 : ∀ x ∈ p0, x.block < W.heap.size := by obtain ⟨m, hm⟩ := k0; exact DataW.trod_lt m _ _ _ hm
  obtain ⟨a0, len0, cap0, rfl⟩ := okWide_slice Try.underlying57 (hval 0 57 v0 rfl rfl)
  obtain ⟨n0, f0⟩ := trod_slice_of Try.underlying57 h0
  have F0 := And.intro f0 L0
  obtain ⟨x0, e0, t0, b0, o0⟩ := el_slice (w := W) (k := 1) slC (fun y : Sl Int => Tab W y.a y.len y.cap 1 (y.l.map iC) ∧ y.len * 8 ≤ 140737488351232 ∧ ∀ z ∈ y.l, wfI z) (by decide) Try.underlying57 (by kernel_rfl) (el_slice (k := 1) iC wfI (by decide) Try.underlying22 (by kernel_rfl) (el_int Try.underlying3) (B := 8) (by kernel_rfl)) (B := 24) (by kernel_rfl) _ _ _ F0.1 F0.2
  simp only [slC, List.cons.injEq, Value.slice.injEq, and_true] at e0
  obtain ⟨rfl, rfl, rfl⟩ := e0
  have k1 := h1
  have L1 := light_of hsz (j := 1) (t := 3) (d := d1) rfl rfl
  have lt1 : ∀ x ∈ p1, x.block < W.heap.size := by obtain ⟨m, hm⟩ := k1; exact DataW.trod_lt m _ _ _ hm
  obtain ⟨x1, rfl, rfl, rfl, w1⟩ := open_int Try.underlying3 (hval 1 3 v1 rfl rfl) h1
  have k2 := h2
  have L2 := light_of hsz (j := 2) (t := 3) (d := d2) rfl rfl
  have lt2 : ∀ x ∈ p2, x.block < W.heap.size := by obtain ⟨m, hm⟩ := k2; exact DataW.trod_lt m _ _ _ hm
  obtain ⟨x2, rfl, rfl, rfl, w2⟩ := open_int Try.underlying3 (hval 2 3 v2 rfl rfl) h2
  clear hA0 hval0
  refine (walk x0 x1 x2 W t0 b0 o0 w1 w2).mono fun e W' ⟨he, hg⟩ => ?_
  subst he
  exact ⟨_, rfl, _, _, _, [], _, [], hW', trodAll_mk1 (shut_bool Try.underlying4 _), (trodAll_cons_mk (Below.trod laidOut (by kernel_rfl) (of_decide_eq_true (by kernel_rfl)) k0 hg lt0) (trodAll_cons_mk (Below.trod laidOut (by kernel_rfl) (of_decide_eq_true (by kernel_rfl)) k1 hg lt1) (trodAll_cons_mk (Below.trod laidOut (by kernel_rfl) (of_decide_eq_true (by kernel_rfl)) k2 hg lt2) trodAll_mk0))), rfl, hg.frame _, fun h => by cases h⟩

theorem over : Rows.spanNestedRow.holds Try.pinned (OpenSpec.ofChange Rows.spanNestedSpec) :=
  OpenClaim.holds_of_wide 8 Try.f8 rfl rfl rfl rfl rfl rfl rfl ⟨rfl, rfl, rfl, rfl, rfl⟩ rfl rfl rfl rfl rfl (by kernel_rfl) Try.func8 (by kernel_rfl)
    (of_decide_eq_true (by kernel_rfl)) (by unfold Func.isWrapper; first | (rw [if_pos (by decide +kernel)]; kernel_rfl) | (rw [if_neg (by decide +kernel)]; exact ⟨rfl, rfl⟩))
    (fun os started H enc _ => lifted os started H enc)

/-- ████ THE STATEMENT ████ -/
theorem proved : Rows.SpanNestedSaid :=
  over
#print axioms proved
end Go.Proofs.Yteddoccgbebbeaa.spanNested
