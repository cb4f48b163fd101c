/-
  'Rows.SpanAloneSaid' is proved: the greatest random value keeps every span, and 0 keeps just those of level 0, which stand for themselves. No condition.
-/
import Derived.Test.YteddoccgbebbeaaRows
import Derived.Test.YteddoccgbebbeaaShapes
import Derived.Test.YteddoccgbebbeaaSpanKept
import Derived.Test.YteddoccgbebbeaaKeepSpans
import Derived.Test.YteddoccgbebbeaaEqualBools
import Derived.Test.YteddoccgbebbeaaLit
import Derived.Deep.DeepCutAuto
import Derived.Deep.LoopGhost
import Derived.BigQuiet
import Derived.WalkKit
import Derived.ProofKit
import Derived.OpenShut
import Derived.ShutString
import Derived.ChangeOld
import Derived.Below
namespace Go.Proofs.Yteddoccgbebbeaa.spanAlone
open Go.ChangeShapes Go.WideShapes Go.ChangeAt Go.RowKit
open Go.ChangeMaps (open_string shut_string)
set_option linter.unusedVariables false

theorem own : ownKnob Try.prog.godebug = none := by kernel_rfl
theorem laidOut : laidOutB Try.prog = true := by kernel_rfl

open Span
theorem lit_ok : spansE [((-1 : Int), (0 : Int)), (0, 1)] = 0 := by decide
theorem lit_kept1 : keptL [((-1 : Int), (0 : Int)), (0, 1)] 0 = [true, false] := by decide
theorem thr_zero {v : Int} (h : 0 ≤ v) (h2 : v ≤ 20) : decide (thr v ≤ 0) = (v == 0) := by
  by_cases e : v = 0
  · subst e; decide
  · rw [show (v == 0) = false from by simpa using e, decide_eq_false_iff_not]
    have h1 := thr_mono (a := 1) (b := v) (by omega)
    have h3 : thr 1 = 36028797018963968 := by decide
    omega

set_option maxRecDepth 100000 in
set_option maxHeartbeats 2000000 in
theorem walk (x0 : Sl (Sl Int)) (w : World) (t0 : Tab w x0.a x0.len x0.cap 1 (x0.l.map slC)) (b0 : x0.len * 24 ≤ 140737488351232) (o0 : ∀ z ∈ x0.l, (fun y : Sl Int => Tab w y.a y.len y.cap 1 (y.l.map iC) ∧ y.len * 8 ≤ 140737488351232 ∧ ∀ z ∈ y.l, wfI z) z) :
    Calls Try.prog 13 #[.slice x0.a x0.len x0.cap] w fun e w' => e = .returned (.bool true) ∧ Below w.heap.size w w' := by
  obtain ⟨a, len, cap, L⟩ := x0
  have hm := t0.hmax
  have hle := t0.hle
  unfold maxLen at hm
  have hb0 : Below w.heap.size w (w.alloc (.cells #[.int .i64 (-1), .int .i64 0, .int .i64 0, .int .i64 1] 44)) := (Below.refl _ _).alloc (Nat.le_refl _) _
  have C0 := kept_ok (some ⟨w.heap.size, 0, none⟩) 2 2 [((-1 : Int), (0 : Int)), (0, 1)] 0 _ (tab_lit w 44 2 2 ([((-1 : Int), (0 : Int)), (0, 1)].map iiC) #[.int .i64 (-1), .int .i64 0, .int .i64 0, .int .i64 1] rfl rfl (rows_of iiC_len _) (by decide) _ rfl) lit_ok (by decide) (by decide)
  rw [lit_kept1] at C0
  have C0 := Lib.hid C0
  have CS := Lib.hid (fun W (hb : Below w.heap.size w W) => spans_any a len cap L 20 W (t0.below hb) (fun z hz => ⟨((o0 z hz).1).below hb, (o0 z hz).2.2⟩) (by decide) (by decide))
  have HOK : Hid (spansE (spansOf 20 (L.take 40)) = 0) := Lib.hid (spansOf_ok (by decide) (by decide) (by rw [List.length_take]; omega))
  have hsl : (spansOf 20 (L.take 40)).length ≤ 40 := by rw [spansOf_len, List.length_take]; omega
  clear t0 o0
  generalize spansOf 20 (L.take 40) = s at *
  go_enter Try.func13, Try.ntmps13
  go_wp2_with fail
  refine C0.out.mono ?_
  rintro e v1 ⟨s1, rfl, hO1, hb1⟩
  have hb1' := below_on hb0 hb1
  obtain ⟨q1, cap1, rfl, hT1⟩ := hO1.tab
  have E1 := Lib.hid (equal_bools q1 (some ⟨v1.heap.size, 0, none⟩) 2 cap1 2 2 [true, false] [true, false] (v1.alloc (.cells #[.bool true, .bool false] 4)) (hT1.below ((Below.refl _ _).alloc (Nat.le_refl _) _)) (tab_lit v1 4 1 2 ([true, false].map bC) #[.bool true, .bool false] rfl rfl (rows_of bC_len _) (by decide) _ rfl) true (by simp))
  have HB1 := Lib.hid (hb1'.alloc hb1'.size (.cells #[.bool true, .bool false] 4))
  clear hb0 hb1 hb1' hO1 hT1 C0
  go_wp2_with fail
  refine E1.out.mono ?_
  rintro e v2 ⟨rfl, hb2⟩
  have HB2 := Lib.hid (below_on HB1.out hb2)
  clear HB1 hb2 E1
  go_wp2_with fail
  refine (CS.out _ HB2.out).mono ?_
  rintro e v3 ⟨s3, rfl, hO3, hb3⟩
  obtain ⟨q3, cap3, rfl, hT3⟩ := hO3.tab
  rw [List.length_map] at hT3 ⊢
  obtain ⟨n, hn⟩ : ∃ n, s.length = n := ⟨_, rfl⟩
  rw [hn] at hT3 hsl ⊢
  have HT3 := Lib.hid hT3
  have HB3 := Lib.hid (below_on HB2.out hb3)
  have HN := Lib.hid hn
  clear HB2 hb3 hO3 hT3 CS hn
  have C4 := Lib.hid (kept_ok q3 n cap3 s 72057594037927935 v3 HT3.out HOK.out (by decide) (by decide))
  go_wp2_with fail
  refine C4.out.mono ?_
  rintro e v5 ⟨s5, rfl, hO5, hb5⟩
  obtain ⟨q5, cap5, rfl, hT5⟩ := hO5.tab
  rw [List.length_map, keptL_len, HN.out] at hT5 ⊢
  have HT5 := Lib.hid hT5
  have HB5 := Lib.hid hb5
  clear hO5 hT5 hb5 C4
  have C6 := Lib.hid (kept_ok q3 n cap3 s 0 v5 (HT3.out.below HB5.out) HOK.out (by decide) (by decide))
  go_wp2_with fail
  refine C6.out.mono ?_
  rintro e v7 ⟨s7, rfl, hO7, hb7⟩
  obtain ⟨q7, cap7, rfl, hT7⟩ := hO7.tab
  rw [List.length_map, keptL_len, HN.out] at hT7 ⊢
  have C8 := Lib.hid (count_ok q3 q7 n cap3 n cap7 s (keptL s 0) v7 (HT3.out.below (below_on HB5.out hb7)) hT7 (by unfold keptE; rw [HOK.out, if_pos rfl, HN.out, if_pos rfl]))
  have HB7 := Lib.hid (below_on HB3.out (below_on HB5.out hb7))
  have HT7 := Lib.hid hT7
  have HT57 := Lib.hid (HT5.out.below hb7)
  have HT37 := Lib.hid (HT3.out.below (below_on HB5.out hb7))
  clear hO7 hT7 hb7 HT5 HT3 HB5 HB3 C6
  obtain ⟨T, hT⟩ : ∃ T, countTo s (keptL s 0) n = T := ⟨_, rfl⟩
  rw [hT] at C8
  have HTT := Lib.hid hT
  clear hT
  go_wp2_with fail
  refine C8.out.mono ?_
  rintro e v8 ⟨rfl, hb8⟩
  have HT8 := Lib.hid (HT7.out.below hb8)
  have HT58 := Lib.hid (HT57.out.below hb8)
  have HT38 := Lib.hid (HT37.out.below hb8)
  have HB8 := Lib.hid (below_on HB7.out hb8)
  have t1 : ((n : Int) != (n : Int)) = false := by simp
  clear HT7 HT57 HT37 HB7 hb8 C8
  go_wp2_with fail
  clear t1
  go_loopg [12, 73] n (fun g c i wr => ∃ (k : Nat) (A : Int), k + g = n ∧ i = .int .i64 k ∧ c = .int .i64 A ∧ 0 ≤ A ∧ A ≤ (k : Int) ∧ Hid (A = countTo s (keptL s 0) k) ∧ Hid (Below v8.heap.size v8 wr))
  case atStart => exact ⟨0, 0, by omega, rfl, rfl, by omega, by omega, Lib.hid rfl, Lib.hid (Below.refl _ _)⟩
  case round =>
    obtain ⟨k, A, hk0, rfl, rfl, hA0, hA1, HA, HW⟩ := hrel
    have HJ := Lib.hid hk0
    have hk : k ≤ n := by omega
    clear hk0
    by_cases hlt : k < n
    · obtain ⟨⟨u, v⟩, hx⟩ : ∃ x, s[k]? = some x := ⟨_, List.getElem?_eq_getElem (by rw [HN.out]; exact hlt)⟩
      have hz := (spansE_zero HOK.out).2 k _ hx
      simp only at hz
      have k1 := keptL_get (r := 72057594037927935) hx
      have k2 := keptL_get (r := 0) hx
      simp only at k1 k2
      have htb := thr_bd v
      rw [show decide (thr v ≤ 72057594037927935) = true from decide_eq_true (by omega)] at k1
      rw [thr_zero hz.2.2.1 hz.2.2.2] at k2
      obtain ⟨c1, o1, ha1, hbs1, d1⟩ := HT58.out.one HW.out (map_get k1)
      obtain ⟨c2, o2, ha2, hbs2, d2⟩ := HT8.out.one HW.out (map_get k2)
      obtain ⟨c3, o3, ha3, hbs3, d3, d4⟩ := HT38.out.two HW.out (map_get hx)
      have HK2 := Lib.hid k2
      have HX := Lib.hid hx
      subst ha1 ha2 ha3
      clear hx hz k1 k2 htb
      by_cases hv : v = 0
      · subst hv
        have HN1 := Lib.hid (countTo_yes HX.out (HK2.out.trans (by simp)))
        simp only at HN1
        rw [show ((0 : Int) == 0) = true from by simp] at d2
        have t2 : ((0 : Int) == 0) = true := by simp
        go_wp2_with fail
        go_quiet (fail)
        go_wp2_with fail
        go_roundg (n - (k + 1))
        case measure => have := HJ.out; omega
        case rel => exact ⟨k + 1, A + 1, by omega, by go_num, by go_num, by omega, by omega, Lib.hid (by rw [HN1.out, ← HA.out]; rfl), Lib.hid (below_drewN HW.out _)⟩
      · have t2 : (v == 0) = false := by simpa using hv
        have HN1 := Lib.hid (countTo_no (l := s) (HK2.out.trans (by rw [t2])))
        rw [t2] at d2
        clear hv
        go_wp2_with fail
        go_quiet (fail)
        go_wp2_with fail
        go_roundg (n - (k + 1))
        case measure => have := HJ.out; omega
        case rel => exact ⟨k + 1, A, by omega, by go_num, rfl, by omega, by omega, Lib.hid (by rw [HN1.out, ← HA.out]), Lib.hid (below_drewN HW.out _)⟩
    · obtain rfl : k = n := by omega
      obtain rfl : A = T := HA.out.trans HTT.out
      have t3 : (A == A) = true := by simp
      go_wp2
      go_ret
      exact ⟨rfl, below_on HB8.out HW.out⟩

set_option maxRecDepth 100000 in
theorem lifted (os : Os) (started : os.Started) (H : Type) (enc : TypeId × Value → H) :
    ReturnsInHanded {} Try.checked os 13 .any (Rows.spanAloneSpec.pre6 enc Try.prog Try.f13 Rows.spanAloneRow.domain false) (Rows.spanAloneSpec.post enc Try.prog Try.f13 false true false false) := by
  refine returnsInHanded_of_change_sized (C := Try.checked) own started (by kernel_rfl) Try.func13
    (ChangeSpec.witness6 (enc := enc) (C := Try.checked) false ⟨#[], #[.slice none 0 0], []⟩ 8 (by kernel_rfl) (by kernel_rfl) (by kernel_rfl) (by kernel_rfl)) ?_
  intro W base args ds gs before hval0 hW hcnd hsz0 _
  have hval : ∀ (j : Nat) t v, Try.f13.params[j]? = some t → args[j]? = some v → Value.okWide Try.prog W .any base t v := hval0
  have hW' := hW
  obtain ⟨p, q, hA0, hV, rfl, hfz, hnd⟩ := hW
  have hA : DataW.TrodAll enc Try.prog W 0 (fun _ => true) true Try.f13.params.toList args.toList ds p := hA0
  have hsz : (DataW.weightsEach Try.prog (Try.f13.params.toList ++ Rows.spanAloneSpec.plain.varTypes Try.prog) (ds ++ gs)).all (· ≤ reachBytes) = true := hsz0
  rw [Try.params13] at hA hval hsz
  obtain ⟨v0, vs0, d0, ds0, p0, q0, hargs, rfl, rfl, h0, r0⟩ := trodAll_cons hA
  obtain ⟨rfl, rfl, rfl⟩ := trodAll_nil r0
  obtain rfl : args = #[v0] := by cases args; simp_all
  obtain ⟨rfl, rfl⟩ := trodVars_none hV
  have k0 := h0
  have L0 := light_of hsz (j := 0) (t := 57) (d := d0) rfl rfl
  have lt0 : ∀ x ∈ p0, x.block < W.heap.size := by obtain ⟨m, hm⟩ := k0; exact DataW.trod_lt m _ _ _ hm
  obtain ⟨a0, len0, cap0, rfl⟩ := okWide_slice Try.underlying57 (hval 0 57 v0 rfl rfl)
  obtain ⟨n0, f0⟩ := trod_slice_of Try.underlying57 h0
  have F0 := And.intro f0 L0
  obtain ⟨x0, e0, t0, b0, o0⟩ := el_slice (w := W) (k := 1) slC (fun y : Sl Int => Tab W y.a y.len y.cap 1 (y.l.map iC) ∧ y.len * 8 ≤ 140737488351232 ∧ ∀ z ∈ y.l, wfI z) (by decide) Try.underlying57 (by kernel_rfl) (el_slice (k := 1) iC wfI (by decide) Try.underlying22 (by kernel_rfl) (el_int Try.underlying3) (B := 8) (by kernel_rfl)) (B := 24) (by kernel_rfl) _ _ _ F0.1 F0.2
  simp only [slC, List.cons.injEq, Value.slice.injEq, and_true] at e0
  obtain ⟨rfl, rfl, rfl⟩ := e0
  clear hA0 hval0
  refine (walk x0 W t0 b0 o0).mono fun e W' ⟨he, hg⟩ => ?_
  subst he
  exact ⟨_, rfl, _, _, _, [], _, [], hW', trodAll_mk1 (shut_bool Try.underlying4 _), (trodAll_cons_mk (Below.trod laidOut (by kernel_rfl) (of_decide_eq_true (by kernel_rfl)) k0 hg lt0) trodAll_mk0), rfl, hg.frame _, fun h => by cases h⟩

theorem over : Rows.spanAloneRow.holds Try.pinned (OpenSpec.ofChange Rows.spanAloneSpec) :=
  OpenClaim.holds_of_wide 13 Try.f13 rfl rfl rfl rfl rfl rfl rfl ⟨rfl, rfl, rfl, rfl, rfl⟩ rfl rfl rfl rfl rfl (by kernel_rfl) Try.func13 (by kernel_rfl)
    (of_decide_eq_true (by kernel_rfl)) (by unfold Func.isWrapper; first | (rw [if_pos (by decide +kernel)]; kernel_rfl) | (rw [if_neg (by decide +kernel)]; exact ⟨rfl, rfl⟩))
    (fun os started H enc _ => lifted os started H enc)

/-- ████ THE STATEMENT ████ -/
theorem proved : Rows.SpanAloneSaid :=
  over
#print axioms proved
end Go.Proofs.Yteddoccgbebbeaa.spanAlone
