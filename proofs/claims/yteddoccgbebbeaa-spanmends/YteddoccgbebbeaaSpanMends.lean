/-
  'Rows.SpanMendsSaid' is proved: the mended trace is whole with every random value, keeps all that was kept, and mending it again changes nothing. No condition.
-/
import Derived.Test.YteddoccgbebbeaaRows
import Derived.Test.YteddoccgbebbeaaShapes
import Derived.Test.YteddoccgbebbeaaSpanKept
import Derived.Test.YteddoccgbebbeaaSpanMend
import Derived.Test.YteddoccgbebbeaaKeepSpans
import Derived.Test.YteddoccgbebbeaaDraw
import Derived.Test.YteddoccgbebbeaaEqualSpans
import Derived.Test.YteddoccgbebbeaaLit
import Derived.Deep.DeepCutAuto
import Derived.Deep.LoopGhost
import Derived.BigQuiet
import Derived.WalkKit
import Derived.ProofKit
import Derived.OpenShut
import Derived.ShutString
import Derived.ChangeOld
import Derived.Below
namespace Go.Proofs.Yteddoccgbebbeaa.spanMends
open Go.ChangeShapes Go.WideShapes Go.ChangeAt Go.RowKit
open Go.ChangeMaps (open_string shut_string)
set_option linter.unusedVariables false

theorem own : ownKnob Try.prog.godebug = none := by kernel_rfl
theorem laidOut : laidOutB Try.prog = true := by kernel_rfl

open Span
theorem lit_ok : spansE [((-1 : Int), (3 : Int)), (0, 1)] = 0 := by decide
theorem lit_mend : mendL [((-1 : Int), (3 : Int)), (0, 1)] = [(-1, 1), (0, 1)] := by decide
/-- the mended trace is whole -/
theorem mend_whole {l : List (Int × Int)} (h : spansE l = 0) (r : Int) : WholeP (mendL l) (keptL (mendL l) r) := by
  obtain ⟨_, h2⟩ := spansE_zero h
  obtain ⟨_, h3⟩ := spansE_zero (mendL_ok h)
  have hM := mendL_mid (l := l) (fun i s hs => ⟨(h2 i s hs).1, (h2 i s hs).2.1⟩)
  intro i s hs hk
  by_cases e : s.1 = -1
  · exact Or.inl e
  · right
    have hb := h3 i s hs
    obtain ⟨p, hp⟩ : ∃ p, (mendL l)[s.1.toNat]? = some p := ⟨_, List.getElem?_eq_getElem (by have := (List.getElem?_eq_some_iff.1 hs).1; omega)⟩
    have hc := hM.closed i s p (Nat.zero_le _) hs e hp
    rw [keptL_get hs, Option.some.injEq, decide_eq_true_iff] at hk
    rw [keptL_get hp, decide_eq_true]
    exact Int.le_trans (thr_mono hc) hk
theorem mend_less {l : List (Int × Int)} (h : spansE l = 0) {i : Nat} {u v : Int} (hs : l[i]? = some (u, v)) : ∃ v', (mendL l)[i]? = some (u, v') ∧ v' ≤ v := by
  obtain ⟨_, h2⟩ := spansE_zero h
  obtain ⟨v', k1, k2, _⟩ := (mendL_mid (l := l) (fun i s hs => ⟨(h2 i s hs).1, (h2 i s hs).2.1⟩)).get i _ hs
  exact ⟨v', k1, k2⟩

set_option maxRecDepth 100000 in
set_option maxHeartbeats 2000000 in
theorem walk (x0 : Sl (Sl Int)) (x1 : Int) (w : World) (t0 : Tab w x0.a x0.len x0.cap 1 (x0.l.map slC)) (b0 : x0.len * 24 ≤ 140737488351232) (o0 : ∀ z ∈ x0.l, (fun y : Sl Int => Tab w y.a y.len y.cap 1 (y.l.map iC) ∧ y.len * 8 ≤ 140737488351232 ∧ ∀ z ∈ y.l, wfI z) z) (w1 : (Lit.int .i64 x1).wf = true) :
    Calls Try.prog 9 #[.slice x0.a x0.len x0.cap, .int .i64 x1] w fun e w' => e = .returned (.bool true) ∧ Below w.heap.size w w' := by
  obtain ⟨a, len, cap, L⟩ := x0
  have hm := t0.hmax
  have hle := t0.hle
  unfold maxLen at hm
  have b1 := wf_i64 w1
  have hb0 : Below w.heap.size w (w.alloc (.cells #[.int .i64 (-1), .int .i64 3, .int .i64 0, .int .i64 1] 44)) := (Below.refl _ _).alloc (Nat.le_refl _) _
  have C0 := mend_ok (some ⟨w.heap.size, 0, none⟩) 2 2 [((-1 : Int), (3 : Int)), (0, 1)] _ (tab_lit w 44 2 2 ([((-1 : Int), (3 : Int)), (0, 1)].map iiC) #[.int .i64 (-1), .int .i64 3, .int .i64 0, .int .i64 1] rfl rfl (rows_of iiC_len _) (by decide) _ rfl) lit_ok
  rw [lit_mend] at C0
  have C0 := Lib.hid C0
  have CS := Lib.hid (fun W (hb : Below w.heap.size w W) => spans_any a len cap L 20 W (t0.below hb) (fun z hz => ⟨((o0 z hz).1).below hb, (o0 z hz).2.2⟩) (by decide) (by decide))
  have HOK : Hid (spansE (spansOf 20 (L.take 40)) = 0) := Lib.hid (spansOf_ok (by decide) (by decide) (by rw [List.length_take]; omega))
  have hsl : (spansOf 20 (L.take 40)).length ≤ 40 := by rw [spansOf_len, List.length_take]; omega
  clear t0 o0
  generalize spansOf 20 (L.take 40) = s at *
  have HR := Lib.hid (fun W => draw_int x1 W b1)
  have dr := withI_bd x1 72057594037927936 (by omega)
  generalize withI x1 72057594037927936 = r at *
  obtain ⟨r, rfl⟩ := Int.eq_ofNat_of_zero_le dr.1
  have hr : r < 72057594037927936 := by omega
  clear dr b1 w1
  have HMO := Lib.hid (mendL_ok HOK.out)
  have HMT := Lib.hid (mendL_twice HOK.out)
  have HMW := Lib.hid (mend_whole HOK.out (r : Int))
  have HML := Lib.hid (mendL_len s)
  have HMG := Lib.hid (fun (i : Nat) (u v : Int) (h : s[i]? = some (u, v)) => mend_less HOK.out h)
  generalize hm2 : mendL s = m at *
  have HM2 := Lib.hid hm2
  clear hm2
  go_enter Try.func9, Try.ntmps9
  go_wp2_with fail
  refine C0.out.mono ?_
  rintro e v1 ⟨s1, rfl, hO1, hb1⟩
  have hb1' := below_on hb0 hb1
  obtain ⟨q1, cap1, rfl, hT1⟩ := hO1.tab
  have E1 := Lib.hid (equal_spans q1 (some ⟨v1.heap.size, 0, none⟩) 2 cap1 2 2 [(-1, 1), (0, 1)] [(-1, 1), (0, 1)] (v1.alloc (.cells #[.int .i64 (-1), .int .i64 1, .int .i64 0, .int .i64 1] 44)) (hT1.below ((Below.refl _ _).alloc (Nat.le_refl _) _)) (tab_lit v1 44 2 2 ([((-1 : Int), (1 : Int)), (0, 1)].map iiC) #[.int .i64 (-1), .int .i64 1, .int .i64 0, .int .i64 1] rfl rfl (rows_of iiC_len _) (by decide) _ rfl) true (by simp))
  have HB1 := Lib.hid (hb1'.alloc hb1'.size (.cells #[.int .i64 (-1), .int .i64 1, .int .i64 0, .int .i64 1] 44))
  clear hb0 hb1 hb1' hO1 hT1 C0
  go_wp2_with fail
  refine E1.out.mono ?_
  rintro e v2 ⟨rfl, hb2⟩
  have HB2 := Lib.hid (below_on HB1.out hb2)
  clear HB1 hb2 E1
  go_wp2_with fail
  refine (CS.out _ HB2.out).mono ?_
  rintro e v3 ⟨s3, rfl, hO3, hb3⟩
  obtain ⟨q3, cap3, rfl, hT3⟩ := hO3.tab
  rw [List.length_map] at hT3 ⊢
  obtain ⟨n, hn⟩ : ∃ n, s.length = n := ⟨_, rfl⟩
  rw [hn] at hT3 hsl HML ⊢
  have HT3 := Lib.hid hT3
  have HB3 := Lib.hid (below_on HB2.out hb3)
  have HN := Lib.hid hn
  clear HB2 hb3 hO3 hT3 CS hn
  go_wp2_with fail
  refine (HR.out _).mono ?_
  rintro e w4 ⟨rfl, rfl⟩
  have C4 := mend_ok q3 n cap3 s v3 HT3.out HOK.out
  rw [HM2.out] at C4
  have C4 := Lib.hid C4
  go_wp2_with fail
  refine C4.out.mono ?_
  rintro e v5 ⟨s5, rfl, hO5, hb5⟩
  obtain ⟨q5, cap5, rfl, hT5⟩ := hO5.tab
  rw [List.length_map, HML.out] at hT5 ⊢
  have HT5 := Lib.hid hT5
  have HB5 := Lib.hid hb5
  clear hO5 hT5 hb5 HR C4
  have C6 := mend_ok q5 n cap5 m v5 HT5.out HMO.out
  rw [HMT.out] at C6
  have C6 := Lib.hid C6
  go_wp2_with fail
  refine C6.out.mono ?_
  rintro e v6 ⟨s6, rfl, hO6, hb6⟩
  obtain ⟨q6, cap6, rfl, hT6⟩ := hO6.tab
  rw [List.length_map, HML.out] at hT6 ⊢
  have HT6 := Lib.hid hT6
  have HB6 := Lib.hid hb6
  clear hO6 hT6 hb6 C6
  have C7 := Lib.hid (kept_ok q3 n cap3 s r v6 (HT3.out.below (below_on HB5.out HB6.out)) HOK.out (by omega) (by omega))
  go_wp2_with fail
  refine C7.out.mono ?_
  rintro e v7 ⟨s7, rfl, hO7, hb7⟩
  obtain ⟨q7, cap7, rfl, hT7⟩ := hO7.tab
  rw [List.length_map, keptL_len, HN.out] at hT7 ⊢
  have HT7 := Lib.hid hT7
  have HB7 := Lib.hid hb7
  clear hO7 hT7 hb7 C7
  have C8 := Lib.hid (kept_ok q5 n cap5 m r v7 (HT5.out.below (below_on HB6.out HB7.out)) HMO.out (by omega) (by omega))
  go_wp2_with fail
  refine C8.out.mono ?_
  rintro e v8 ⟨s8, rfl, hO8, hb8⟩
  obtain ⟨q8, cap8, rfl, hT8⟩ := hO8.tab
  rw [List.length_map, keptL_len, HML.out] at hT8 ⊢
  have HT8 := Lib.hid hT8
  have HB8 := Lib.hid hb8
  clear hO8 hT8 hb8 C8
  have C9 := Lib.hid (whole_ok q5 q8 n cap5 n cap8 m (keptL m (r : Int)) v8 (HT5.out.below (below_on HB6.out (below_on HB7.out HB8.out))) HT8.out (by unfold keptE; rw [HMO.out, if_pos rfl, HML.out, if_pos rfl]) true (by simp only [true_iff]; exact HMW.out))
  go_wp2_with fail
  refine C9.out.mono ?_
  rintro e v9 ⟨rfl, hb9⟩
  have HB9 := Lib.hid hb9
  clear hb9 C9
  have CE := Lib.hid (equal_spans q6 q5 n cap6 n cap5 m m v9 (HT6.out.below (below_on HB7.out (below_on HB8.out HB9.out))) (HT5.out.below (below_on HB6.out (below_on HB7.out (below_on HB8.out HB9.out)))) true (by simp))
  have t1 : ((n : Int) != (n : Int)) = false := by simp
  go_wp2_with fail
  refine CE.out.mono ?_
  rintro e v10 ⟨rfl, hb10⟩
  have T3 := Lib.hid (HT3.out.below (below_on HB5.out (below_on HB6.out (below_on HB7.out (below_on HB8.out (below_on HB9.out hb10))))))
  have T5 := Lib.hid (HT5.out.below (below_on HB6.out (below_on HB7.out (below_on HB8.out (below_on HB9.out hb10)))))
  have T7 := Lib.hid (HT7.out.below (below_on HB8.out (below_on HB9.out hb10)))
  have T8 := Lib.hid (HT8.out.below (below_on HB9.out hb10))
  have TB := Lib.hid (below_on HB3.out (below_on HB5.out (below_on HB6.out (below_on HB7.out (below_on HB8.out (below_on HB9.out hb10))))))
  clear HT3 HT5 HT6 HT7 HT8 HB3 HB5 HB6 HB7 HB8 HB9 hb10 CE
  go_wp2_with fail
  clear t1
  go_loopg [117] n (fun g i wr => ∃ k : Nat, k + g = n ∧ i = .int .i64 k ∧ Hid (Below v10.heap.size v10 wr))
  case atStart => exact ⟨0, by omega, rfl, Lib.hid (Below.refl _ _)⟩
  case round =>
    obtain ⟨k, hk0, rfl, HW⟩ := hrel
    have HJ := Lib.hid hk0
    have hk : k ≤ n := by omega
    clear hk0
    by_cases hlt : k < n
    · obtain ⟨⟨u, v⟩, hx⟩ : ∃ x, s[k]? = some x := ⟨_, List.getElem?_eq_getElem (by rw [HN.out]; exact hlt)⟩
      obtain ⟨v', hy, hvv⟩ := HMG.out k u v hx
      have k1 := keptL_get (r := (r : Int)) hx
      have k2 := keptL_get (r := (r : Int)) hy
      simp only at k1 k2
      have hthr := thr_mono hvv
      obtain ⟨c1, o1, ha1, hbs1, d1⟩ := T7.out.one HW.out (map_get k1)
      obtain ⟨c2, o2, ha2, hbs2, d2⟩ := T8.out.one HW.out (map_get k2)
      obtain ⟨c3, o3, ha3, hbs3, d3, d4⟩ := T3.out.two HW.out (map_get hx)
      obtain ⟨c4, o4, ha4, hbs4, d5, d6⟩ := T5.out.two HW.out (map_get hy)
      subst ha1 ha2 ha3 ha4
      have t2 : (u != u) = false := by simp
      clear hx hy k1 k2
      by_cases ht : thr v ≤ (r : Int)
      · rw [show decide (thr v ≤ (r : Int)) = true from decide_eq_true ht] at d1
        rw [show decide (thr v' ≤ (r : Int)) = true from decide_eq_true (by omega)] at d2
        clear ht hthr
        go_wp2_with fail
        go_quiet (fail)
        go_wp2_with fail
        go_roundg (n - (k + 1))
        case measure => have := HJ.out; omega
        case rel => exact ⟨k + 1, by omega, by go_num, Lib.hid (below_drewN HW.out _)⟩
      · rw [show decide (thr v ≤ (r : Int)) = false from decide_eq_false ht] at d1
        clear ht hthr d2
        go_wp2_with fail
        go_quiet (fail)
        go_wp2_with fail
        go_roundg (n - (k + 1))
        case measure => have := HJ.out; omega
        case rel => exact ⟨k + 1, by omega, by go_num, Lib.hid (below_drewN HW.out _)⟩
    · obtain rfl : k = n := by omega
      go_wp2
      go_ret
      exact ⟨rfl, below_on TB.out HW.out⟩

set_option maxRecDepth 100000 in
theorem lifted (os : Os) (started : os.Started) (H : Type) (enc : TypeId × Value → H) :
    ReturnsInHanded {} Try.checked os 9 .any (Rows.spanMendsSpec.pre6 enc Try.prog Try.f9 Rows.spanMendsRow.domain false) (Rows.spanMendsSpec.post enc Try.prog Try.f9 false true false false) := by
  refine returnsInHanded_of_change_sized (C := Try.checked) own started (by kernel_rfl) Try.func9
    (ChangeSpec.witness6 (enc := enc) (C := Try.checked) false ⟨#[], #[.slice none 0 0, .int .i64 0], []⟩ 8 (by kernel_rfl) (by kernel_rfl) (by kernel_rfl) (by kernel_rfl)) ?_
  intro W base args ds gs before hval0 hW hcnd hsz0 _
  have hval : ∀ (j : Nat) t v, Try.f9.params[j]? = some t → args[j]? = some v → Value.okWide Try.prog W .any base t v := hval0
  have hW' := hW
  obtain ⟨p, q, hA0, hV, rfl, hfz, hnd⟩ := hW
  have hA : DataW.TrodAll enc Try.prog W 0 (fun _ => true) true Try.f9.params.toList args.toList ds p := hA0
  have hsz : (DataW.weightsEach Try.prog (Try.f9.params.toList ++ Rows.spanMendsSpec.plain.varTypes Try.prog) (ds ++ gs)).all (· ≤ reachBytes) = true := hsz0
  rw [Try.params9] at hA hval hsz
  obtain ⟨v0, vs0, d0, ds0, p0, q0, hargs, rfl, rfl, h0, r0⟩ := trodAll_cons hA
  obtain ⟨v1, vs1, d1, ds1, p1, q1, rfl, rfl, rfl, h1, r1⟩ := trodAll_cons r0
  obtain ⟨rfl, rfl, rfl⟩ := trodAll_nil r1
  obtain rfl : args = #[v0, v1] := by cases args; simp_all
  obtain ⟨rfl, rfl⟩ := trodVars_none hV
  have k0 := h0
  have L0 := light_of hsz (j := 0) (t := 57) (d := d0) rfl rfl
  have lt0 : ∀ x ∈ p0, x.block < W.heap.size := by obtain ⟨m, hm⟩ := k0; exact DataW.trod_lt m _ _ _ hm
  obtain ⟨a0, len0, cap0, rfl⟩ := okWide_slice Try.underlying57 (hval 0 57 v0 rfl rfl)
  obtain ⟨n0, f0⟩ := trod_slice_of Try.underlying57 h0
  have F0 := And.intro f0 L0
  obtain ⟨x0, e0, t0, b0, o0⟩ := el_slice (w := W) (k := 1) slC (fun y : Sl Int => Tab W y.a y.len y.cap 1 (y.l.map iC) ∧ y.len * 8 ≤ 140737488351232 ∧ ∀ z ∈ y.l, wfI z) (by decide) Try.underlying57 (by kernel_rfl) (el_slice (k := 1) iC wfI (by decide) Try.underlying22 (by kernel_rfl) (el_int Try.underlying3) (B := 8) (by kernel_rfl)) (B := 24) (by kernel_rfl) _ _ _ F0.1 F0.2
  simp only [slC, List.cons.injEq, Value.slice.injEq, and_true] at e0
  obtain ⟨rfl, rfl, rfl⟩ := e0
  have k1 := h1
  have L1 := light_of hsz (j := 1) (t := 3) (d := d1) rfl rfl
  have lt1 : ∀ x ∈ p1, x.block < W.heap.size := by obtain ⟨m, hm⟩ := k1; exact DataW.trod_lt m _ _ _ hm
  obtain ⟨x1, rfl, rfl, rfl, w1⟩ := open_int Try.underlying3 (hval 1 3 v1 rfl rfl) h1
  clear hA0 hval0
  refine (walk x0 x1 W t0 b0 o0 w1).mono fun e W' ⟨he, hg⟩ => ?_
  subst he
  exact ⟨_, rfl, _, _, _, [], _, [], hW', trodAll_mk1 (shut_bool Try.underlying4 _), (trodAll_cons_mk (Below.trod laidOut (by kernel_rfl) (of_decide_eq_true (by kernel_rfl)) k0 hg lt0) (trodAll_cons_mk (Below.trod laidOut (by kernel_rfl) (of_decide_eq_true (by kernel_rfl)) k1 hg lt1) trodAll_mk0)), rfl, hg.frame _, fun h => by cases h⟩

theorem over : Rows.spanMendsRow.holds Try.pinned (OpenSpec.ofChange Rows.spanMendsSpec) :=
  OpenClaim.holds_of_wide 9 Try.f9 rfl rfl rfl rfl rfl rfl rfl ⟨rfl, rfl, rfl, rfl, rfl⟩ rfl rfl rfl rfl rfl (by kernel_rfl) Try.func9 (by kernel_rfl)
    (of_decide_eq_true (by kernel_rfl)) (by unfold Func.isWrapper; first | (rw [if_pos (by decide +kernel)]; kernel_rfl) | (rw [if_neg (by decide +kernel)]; exact ⟨rfl, rfl⟩))
    (fun os started H enc _ => lifted os started H enc)

/-- ████ THE STATEMENT ████ -/
theorem proved : Rows.SpanMendsSaid :=
  over
#print axioms proved
end Go.Proofs.Yteddoccgbebbeaa.spanMends
