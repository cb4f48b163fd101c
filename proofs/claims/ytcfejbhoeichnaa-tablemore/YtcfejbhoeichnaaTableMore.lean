/-
  'Rows.TableMoreSaid' is proved: what is put decreases no count, and increases that of its key by what is put. No condition.
-/
import Derived.Test.YtcfejbhoeichnaaRows
import Derived.Test.YtcfejbhoeichnaaShapes
import Derived.Test.YtcfejbhoeichnaaTabAll
import Derived.Test.YtcfejbhoeichnaaTabMin
import Derived.Deep.DeepCutAuto
import Derived.WalkKit
import Derived.ProofKit
import Derived.OpenShut
import Derived.ShutString
import Derived.ChangeOld
import Derived.Below
namespace Go.Proofs.Ytcfejbhoeichnaa.tableMore
open Go.ChangeShapes Go.WideShapes Go.ChangeAt Go.RowKit
open Go.ChangeMaps (open_string shut_string)
set_option linter.unusedVariables false

theorem own : ownKnob Try.prog.godebug = none := by kernel_rfl
theorem laidOut : laidOutB Try.prog = true := by kernel_rfl

open Tbl

set_option maxRecDepth 100000 in
set_option maxHeartbeats 2000000 in
theorem walk (x0_0 : Int) (x0_1 : Sl (Sl Int)) (x1 : Int) (x2 : Int) (x3 : Int) (w : World) (w0_0 : (Lit.int .i64 x0_0).wf = true) (t0_1 : Tab w x0_1.a x0_1.len x0_1.cap 1 (x0_1.l.map slC)) (b0_1 : x0_1.len * 24 ≤ 140737488351232) (o0_1 : ∀ z ∈ x0_1.l, (fun y : Sl Int => Tab w y.a y.len y.cap 1 (y.l.map iC) ∧ y.len * 8 ≤ 140737488351232 ∧ ∀ z ∈ y.l, wfI z) z) (w1 : (Lit.int .i64 x1).wf = true) (w2 : (Lit.int .i64 x2).wf = true) (w3 : (Lit.int .i64 x3).wf = true) :
    Calls Try.prog 7 #[.agg #[.int .i64 x0_0, .slice x0_1.a x0_1.len x0_1.cap], .int .i64 x1, .int .i64 x2, .int .i64 x3] w fun e w' => e = .returned (.bool true) ∧ Below w.heap.size w w' := by
  obtain ⟨a, len, cap, S⟩ := x0_1
  have hT : TTx w anyB a len cap (S.map (fun s => s.l)) := TTx.of t0_1 (fun s hs => (o0_1 s hs).1)
  generalize S.map (fun s => s.l) = R at *
  clear t0_1 o0_1 b0_1
  generalize x0_0 = W at *
  generalize x1 = x at *
  generalize x2 = n at *
  generalize x3 = y at *
  have hb0 : Below w.heap.size w (w.alloc (.cells #[.int .i64 W, .slice a len cap] 39)) := (Below.refl _ _).alloc (Nat.le_refl _) _
  have st0 := ST.new (W := W) hT
  obtain ⟨v0, hv0⟩ : ∃ v, w.alloc (.cells #[.int .i64 W, .slice a len cap] 39) = v := ⟨_, rfl⟩
  rw [hv0] at hb0 st0
  have h3 := tt_one v0 3
  have hb1 : Below v0.heap.size v0 ((v0.alloc (.cells #[.int .i64 3] 3)).alloc (.cells #[.slice (some ⟨v0.heap.size, 0, none⟩) 1 1] 34)) := ((Below.refl _ _).alloc (Nat.le_refl _) _).alloc (by simp) _
  have C0 := task_ok 1 5 (some ⟨v0.heap.size + 1, 0, none⟩) 1 1 [[3]] anyB _ h3 (good_one (by decide) (by decide))
  rw [ask_one (by decide)] at C0
  have HC0 := Lib.hid C0
  have HV := Lib.hid hv0
  have HB1 := Lib.hid (below_on hb0 hb1)
  have SA := Lib.hid (st0.1.below hb1)
  obtain ⟨v1, hv1⟩ : ∃ v, ((v0.alloc (.cells #[.int .i64 3] 3)).alloc (.cells #[.slice (some ⟨v0.heap.size, 0, none⟩) 1 1] 34)) = v := ⟨_, rfl⟩
  rw [hv1] at HC0 HB1 SA
  have HV1 := Lib.hid hv1
  obtain ⟨Sp, Rp, CP1, CP⟩ := tput_all W x n a len cap R
  clear hb0 st0 hv0 h3 hb1 C0 hv1 hT
  go_enter Try.func7, Try.ntmps7
  go_upto_region 1 with fail
  rw [HV.out]
  obtain ⟨X, hX⟩ : ∃ X, w.heap.size = X := ⟨_, rfl⟩
  have HX := Lib.hid hX
  rw [hX] at SA ⊢
  clear HV hX
  go_wp2_with fail
  rw [HV1.out]
  refine HC0.out.mono ?_
  rintro e w1 ⟨rfl, hb⟩
  replace SA := Lib.hid (SA.out.below hb)
  have HB2 := Lib.hid (below_on HB1.out hb)
  clear hb HV1 HC0 HB1
  obtain ⟨c0, c1⟩ := SA.out.cells
  go_wp2_with fail
  clear c0 c1
  refine (CP.out anyB _ SA.out.2).mono ?_
  rintro e w2 ⟨a', l', c', rfl, htt, hb⟩
  have hz := ST.new (W := Sp) htt
  have HL := Lib.hid htt.len
  have HB3 := Lib.hid (below_on (below_on HB2.out hb) hz.2)
  replace SA := Lib.hid ((SA.out.below hb).below hz.2)
  obtain ⟨w3, hw3⟩ : ∃ v, w2.alloc (.cells #[.int .i64 Sp, .slice a' l' c'] 39) = v := ⟨_, rfl⟩
  rw [hw3] at hz HB3 SA
  obtain ⟨Y, hY⟩ : ∃ X, w2.heap.size = X := ⟨_, rfl⟩
  rw [hY] at hz
  have SP := Lib.hid hz.1
  have HVX := Lib.hid (And.intro hw3 hY)
  clear hz hb htt hw3 hY CP HB2
  go_upto_region 5 with fail
  rw [HVX.out.1, HVX.out.2]
  clear HVX
  rcases CP1.out with ⟨hE, rfl, rfl⟩ | ⟨hE, s, rfl, hg, hn, rfl, hR⟩
  · generalize putE W R x n = E at *
    have t : (E != 0) = true := by simpa using hE
    obtain rfl : l' = 0 := by rw [← HL.out]; rfl
    obtain ⟨c0, c1⟩ := SP.out.cells
    clear hE CP1 HL
    go_wp2_with fail
    go_ret
    exact ⟨rfl, HB3.out⟩
  · have hgp : GoodT s Rp := by rw [hR]; exact put_good hg (by rw [← putE_ok hg hn.1 hn.2]; exact hE)
    have hgp2 := hgp
    rw [hR] at hgp2
    have hq1 := put_other (x := x) (y := y) hg hn.1
    have hq2 := put_self (x := x) hg hn.1 hgp2
    rw [← hR] at hq1 hq2
    rw [hE]
    have D1 := Lib.hid (fun U (h : TTx U anyB a len cap R) => task_ok s y a len cap R anyB U h hg)
    have D2 := Lib.hid (fun U (h : TTx U anyB a' l' c' Rp) => task_ok s y a' l' c' Rp anyB U h hgp)
    have D3 := Lib.hid (fun U (h : TTx U anyB a len cap R) => task_ok s x a len cap R anyB U h hg)
    have D4 := Lib.hid (fun U (h : TTx U anyB a' l' c' Rp) => task_ok s x a' l' c' Rp anyB U h hgp)
    have hn1 := hn.1
    have hn2 := hn.2
    have b1 := ask_top s y R
    have b2 := ask_top s y Rp
    have b3 := ask_top s x R
    have b0 : 0 ≤ askR s y R ∧ 0 ≤ askR s x R := by
      constructor
      · rcases ask_is s y R with h | ⟨i, r, hr, h⟩
        · omega
        · obtain ⟨z, hz⟩ := at_some (x := y) (i := i) hg.s1 (hg.len _ (List.mem_of_getElem? hr))
          rw [h, atR_is hz]
          exact (hg.cnt _ (List.mem_of_getElem? hr) z (List.mem_of_getElem? hz)).1
      · rcases ask_is s x R with h | ⟨i, r, hr, h⟩
        · omega
        · obtain ⟨z, hz⟩ := at_some (x := x) (i := i) hg.s1 (hg.len _ (List.mem_of_getElem? hr))
          rw [h, atR_is hz]
          exact (hg.cnt _ (List.mem_of_getElem? hr) z (List.mem_of_getElem? hz)).1
    generalize askR s y R = A at *
    generalize askR s y Rp = B at *
    generalize askR s x R = C at *
    generalize askR s x Rp = D at *
    have q1 := hq1.1
    have q2 := hq1.2
    have q3 := b0.1
    have q4 := b0.2
    have t1 : decide (A ≤ B) = true := decide_eq_true q1
    have t2 : decide (B ≤ A + n) = true := decide_eq_true q2
    have t3 : (D == C + n) = true := by simpa using hq2
    clear hE CP1 hR hgp hgp2 hq1 hn b0 hg HL
    obtain ⟨c0, c1⟩ := SA.out.cells
    go_wp2_with fail
    clear c0 c1
    refine (D1.out _ SA.out.2).mono ?_
    rintro e w4 ⟨rfl, hb⟩
    replace SA := Lib.hid (SA.out.below hb)
    replace SP := Lib.hid (SP.out.below hb)
    have HB4 := Lib.hid (below_on HB3.out hb)
    clear hb D1 HB3
    obtain ⟨c0, c1⟩ := SP.out.cells
    go_wp2_with fail
    clear c0 c1
    refine (D2.out _ SP.out.2).mono ?_
    rintro e w5 ⟨rfl, hb⟩
    replace SA := Lib.hid (SA.out.below hb)
    replace SP := Lib.hid (SP.out.below hb)
    have HB5 := Lib.hid (below_on HB4.out hb)
    clear hb D2 HB4
    obtain ⟨c0, c1⟩ := SA.out.cells
    go_wp2_with fail
    clear c0 c1
    refine (D3.out _ SA.out.2).mono ?_
    rintro e w6 ⟨rfl, hb⟩
    replace SP := Lib.hid (SP.out.below hb)
    have HB6 := Lib.hid (below_on HB5.out hb)
    clear hb D3 HB5
    obtain ⟨c0, c1⟩ := SP.out.cells
    go_wp2_with fail
    clear c0 c1
    refine (D4.out _ SP.out.2).mono ?_
    rintro e w7 ⟨rfl, hb⟩
    have HB7 := Lib.hid (below_on HB6.out hb)
    clear hb D4 HB6
    go_wp2_with fail
    go_ret
    exact ⟨rfl, HB7.out⟩

set_option maxRecDepth 100000 in
theorem lifted (os : Os) (started : os.Started) (H : Type) (enc : TypeId × Value → H) :
    ReturnsInHanded {} Try.checked os 7 .any (Rows.tableMoreSpec.pre6 enc Try.prog Try.f7 Rows.tableMoreRow.domain false) (Rows.tableMoreSpec.post enc Try.prog Try.f7 false true false false) := by
  refine returnsInHanded_of_change_sized (C := Try.checked) own started (by kernel_rfl) Try.func7
    (ChangeSpec.witness6 (enc := enc) (C := Try.checked) false ⟨#[], #[.agg #[.int .i64 0, .slice none 0 0], .int .i64 0, .int .i64 0, .int .i64 0], []⟩ 8 (by kernel_rfl) (by kernel_rfl) (by kernel_rfl) (by kernel_rfl)) ?_
  intro W base args ds gs before hval0 hW hcnd hsz0 _
  have hval : ∀ (j : Nat) t v, Try.f7.params[j]? = some t → args[j]? = some v → Value.okWide Try.prog W .any base t v := hval0
  have hW' := hW
  obtain ⟨p, q, hA0, hV, rfl, hfz, hnd⟩ := hW
  have hA : DataW.TrodAll enc Try.prog W 0 (fun _ => true) true Try.f7.params.toList args.toList ds p := hA0
  have hsz : (DataW.weightsEach Try.prog (Try.f7.params.toList ++ Rows.tableMoreSpec.plain.varTypes Try.prog) (ds ++ gs)).all (· ≤ reachBytes) = true := hsz0
  rw [Try.params7] at hA hval hsz
  obtain ⟨v0, vs0, d0, ds0, p0, q0, hargs, rfl, rfl, h0, r0⟩ := trodAll_cons hA
  obtain ⟨v1, vs1, d1, ds1, p1, q1, rfl, rfl, rfl, h1, r1⟩ := trodAll_cons r0
  obtain ⟨v2, vs2, d2, ds2, p2, q2, rfl, rfl, rfl, h2, r2⟩ := trodAll_cons r1
  obtain ⟨v3, vs3, d3, ds3, p3, q3, rfl, rfl, rfl, h3, r3⟩ := trodAll_cons r2
  obtain ⟨rfl, rfl, rfl⟩ := trodAll_nil r3
  obtain rfl : args = #[v0, v1, v2, v3] := by cases args; simp_all
  obtain ⟨rfl, rfl⟩ := trodVars_none hV
  have k0 := h0
  have L0 := light_of hsz (j := 0) (t := 39) (d := d0) rfl rfl
  have lt0 : ∀ x ∈ p0, x.block < W.heap.size := by obtain ⟨m, hm⟩ := k0; exact DataW.trod_lt m _ _ _ hm
  obtain ⟨cs0, rfl, hsz0⟩ := okWide_struct Try.underlying39 (hval 0 39 v0 rfl rfl)
  obtain ⟨n0, f0⟩ := trod_agg_of h0
  obtain ⟨c0_0, c0_1, _, _, _, _, hcs0, g0_0, g0_1⟩ := struct2 Try.underlying39 (by kernel_rfl) (by kernel_rfl) f0 L0
  obtain ⟨x0_0, e0_0, _, w0_0⟩ := DataW.trod_int Try.underlying3 g0_0.1
  obtain ⟨x0_1, e0_1, t0_1, b0_1, o0_1⟩ := el_slice (w := W) (k := 1) slC (fun y : Sl Int => Tab W y.a y.len y.cap 1 (y.l.map iC) ∧ y.len * 8 ≤ 140737488351232 ∧ ∀ z ∈ y.l, wfI z) (by decide) Try.underlying37 (by kernel_rfl) (el_slice (k := 1) iC wfI (by decide) Try.underlying34 (by kernel_rfl) (el_int Try.underlying3) (B := 8) (by kernel_rfl)) (B := 24) (by kernel_rfl) _ _ _ g0_1.1 g0_1.2
  simp only [slC, List.cons.injEq, and_true] at e0_0 e0_1
  subst e0_0 e0_1
  obtain rfl : cs0 = #[.int .i64 x0_0, .slice x0_1.a x0_1.len x0_1.cap] := Array.toList_inj.1 hcs0
  have k1 := h1
  have L1 := light_of hsz (j := 1) (t := 3) (d := d1) rfl rfl
  have lt1 : ∀ x ∈ p1, x.block < W.heap.size := by obtain ⟨m, hm⟩ := k1; exact DataW.trod_lt m _ _ _ hm
  obtain ⟨x1, rfl, rfl, rfl, w1⟩ := open_int Try.underlying3 (hval 1 3 v1 rfl rfl) h1
  have k2 := h2
  have L2 := light_of hsz (j := 2) (t := 3) (d := d2) rfl rfl
  have lt2 : ∀ x ∈ p2, x.block < W.heap.size := by obtain ⟨m, hm⟩ := k2; exact DataW.trod_lt m _ _ _ hm
  obtain ⟨x2, rfl, rfl, rfl, w2⟩ := open_int Try.underlying3 (hval 2 3 v2 rfl rfl) h2
  have k3 := h3
  have L3 := light_of hsz (j := 3) (t := 3) (d := d3) rfl rfl
  have lt3 : ∀ x ∈ p3, x.block < W.heap.size := by obtain ⟨m, hm⟩ := k3; exact DataW.trod_lt m _ _ _ hm
  obtain ⟨x3, rfl, rfl, rfl, w3⟩ := open_int Try.underlying3 (hval 3 3 v3 rfl rfl) h3
  clear hA0 hval0
  refine (walk x0_0 x0_1 x1 x2 x3 W w0_0 t0_1 b0_1 o0_1 w1 w2 w3).mono fun e W' ⟨he, hg⟩ => ?_
  subst he
  exact ⟨_, rfl, _, _, _, [], _, [], hW', trodAll_mk1 (shut_bool Try.underlying4 _), (trodAll_cons_mk (Below.trod laidOut (by kernel_rfl) (of_decide_eq_true (by kernel_rfl)) k0 hg lt0) (trodAll_cons_mk (Below.trod laidOut (by kernel_rfl) (of_decide_eq_true (by kernel_rfl)) k1 hg lt1) (trodAll_cons_mk (Below.trod laidOut (by kernel_rfl) (of_decide_eq_true (by kernel_rfl)) k2 hg lt2) (trodAll_cons_mk (Below.trod laidOut (by kernel_rfl) (of_decide_eq_true (by kernel_rfl)) k3 hg lt3) trodAll_mk0)))), rfl, hg.frame _, fun h => by cases h⟩

theorem over : Rows.tableMoreRow.holds Try.pinned (OpenSpec.ofChange Rows.tableMoreSpec) :=
  OpenClaim.holds_of_wide 7 Try.f7 rfl rfl rfl rfl rfl rfl rfl ⟨rfl, rfl, rfl, rfl, rfl⟩ rfl rfl rfl rfl rfl (by kernel_rfl) Try.func7 (by kernel_rfl)
    (of_decide_eq_true (by kernel_rfl)) (by unfold Func.isWrapper; first | (rw [if_pos (by decide +kernel)]; kernel_rfl) | (rw [if_neg (by decide +kernel)]; exact ⟨rfl, rfl⟩))
    (fun os started H enc _ => lifted os started H enc)

/-- ████ THE STATEMENT ████ -/
theorem proved : Rows.TableMoreSaid :=
  over
#print axioms proved
end Go.Proofs.Ytcfejbhoeichnaa.tableMore
