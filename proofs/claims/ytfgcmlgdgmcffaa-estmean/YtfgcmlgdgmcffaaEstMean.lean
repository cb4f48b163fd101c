/-
  'Rows.EstMeanSaid' is proved: over all random values of one remainder, the same for all items, the estimate is in the mean the total. No condition.
-/
import Derived.Test.YtfgcmlgdgmcffaaRows
import Derived.Test.YtfgcmlgdgmcffaaShapes
import Derived.Test.YtfgcmlgdgmcffaaEstSum
import Derived.Test.YtfgcmlgdgmcffaaEstLits
import Derived.Test.YtfgcmlgdgmcffaaMeanMath
import Derived.Test.YtfgcmlgdgmcffaaRepeatOne
import Derived.Test.YtfgcmlgdgmcffaaWorth
import Derived.Deep.DeepCutAuto
import Derived.WalkKit
import Derived.ProofKit
import Derived.OpenShut
import Derived.ShutString
import Derived.ChangeOld
import Derived.Below
namespace Go.Proofs.Ytfgcmlgdgmcffaa.estMean
open Go.ChangeShapes Go.WideShapes Go.ChangeAt Go.RowKit
open Go.ChangeMaps (open_string shut_string)
set_option linter.unusedVariables false

theorem own : ownKnob Try.prog.godebug = none := by kernel_rfl
theorem laidOut : laidOutB Try.prog = true := by kernel_rfl

open Est Span
theorem lit_mean : sumR [5] [2] [72057594037927935] = 20 ∧ sumE [5] [2] [72057594037927935] = 0 := by decide +kernel

set_option maxRecDepth 100000 in
set_option maxHeartbeats 2000000 in
theorem walk (x0 : Sl Int) (x1 : Sl Int) (x2 : Int) (w : World) (t0 : Tab w x0.a x0.len x0.cap 1 (x0.l.map iC)) (b0 : x0.len * 8 ≤ 140737488351232) (o0 : ∀ z ∈ x0.l, wfI z) (t1 : Tab w x1.a x1.len x1.cap 1 (x1.l.map iC)) (b1 : x1.len * 8 ≤ 140737488351232) (o1 : ∀ z ∈ x1.l, wfI z) (w2 : (Lit.int .i64 x2).wf = true) :
    Calls Try.prog 5 #[.slice x0.a x0.len x0.cap, .slice x1.a x1.len x1.cap, .int .i64 x2] w fun e w' => e = .returned (.bool true) ∧ Below w.heap.size w w' := by
  obtain ⟨a, len, cap, L⟩ := x0
  obtain ⟨a2, len2, cap2, Q⟩ := x1
  obtain ⟨l1, l2, l3, hb0⟩ := lits3 w 1 [5] [2] [72057594037927935] #[.int .i64 5] #[.int .i64 2] #[.int .i64 72057594037927935] rfl rfl rfl rfl rfl rfl (by decide)
  have C0 := sum_any _ _ _ 1 1 1 1 1 1 [5] [2] [72057594037927935] _ l1 l2 l3
  rw [lit_mean.1, lit_mean.2] at C0
  have C0 := Lib.hid C0
  have HB0 := Lib.hid hb0
  have CW := Lib.hid (fun W (hb : Below w.heap.size w W) => worth_any a a2 len cap len2 cap2 L Q 40 6 W (t0.below hb) (t1.below hb) (fun z hz => o0 z hz) (fun z hz => o1 z hz) (by decide) (by decide) (by decide))
  have HR := Lib.hid (fun W => within_int x2 1125899906842624 W (wf_i64 w2) (by omega) (by omega))
  have dr := withI_bd x2 1125899906842624 (by omega)
  generalize withI x2 1125899906842624 = r at *
  obtain ⟨r, rfl⟩ := Int.eq_ofNat_of_zero_le dr.1
  have hr : r < 1125899906842624 := by omega
  obtain ⟨n, hn⟩ : ∃ n, min len 40 = n := ⟨_, rfl⟩
  rw [hn] at CW
  have hn40 : n ≤ 40 := by omega
  clear t0 o0 t1 o1 l1 l2 l3 hb0 hn dr w2
  have HSUM := Lib.hid (mean_all (f := worthAt L) (g := levelAt 6 Q) (low := (r : Int)) (fun i => levelAt_bd (by omega) Q i) (by omega) (by omega) n)
  go_enter Try.func5, Try.ntmps5
  go_wp2_with fail
  refine C0.out.mono ?_
  rintro e v1 ⟨rfl, hb1⟩
  have HB1 := Lib.hid (below_on HB0.out hb1)
  clear hb1 C0 HB0
  go_wp2_with fail
  refine (CW.out _ HB1.out).mono ?_
  rintro e v2 ⟨p, q, rfl, hM, hb2⟩
  have HB2 := Lib.hid (below_on HB1.out hb2)
  obtain ⟨ap, cp, rfl, hTp⟩ := (hM.at (v := p) (L := listTo (worthAt L) n) (by simp)).tab
  obtain ⟨aq, cq, rfl, hTq⟩ := (hM.at (v := q) (L := listTo (levelAt 6 Q) n) (by simp)).tab
  rw [List.length_map, listTo_len] at hTp hTq
  rw [List.length_map, List.length_map, listTo_len, listTo_len]
  have HTP := Lib.hid hTp
  have HTQ := Lib.hid hTq
  clear hb2 hM hTp hTq CW HB1
  go_wp2_with fail
  refine (HR.out _).mono ?_
  rintro e w4 ⟨rfl, hw4⟩
  rw [← hw4]
  clear hw4 HR
  go_wp2_with fail
  go_loopg [11, 36] 64 (fun g c i wr => ∃ (k : Nat) (A : Int), k + g = 64 ∧ i = .int .i64 k ∧ c = .int .i64 A ∧ -((k : Int) * 42000000000) ≤ A ∧ A ≤ (k : Int) * 42000000000 ∧ Hid (A = sumTo (fun k => sumTo (fun i => term (worthAt L i) (levelAt 6 Q i) ((k : Int) * 1125899906842624 + (r : Int))) n) k) ∧ Hid (Below v2.heap.size v2 wr))
  case atStart => exact ⟨0, 0, by omega, rfl, rfl, by omega, by omega, Lib.hid rfl, Lib.hid (Below.refl _ _)⟩
  case round =>
    obtain ⟨k, A, hk0, rfl, rfl, hA0, hA1, HA, HW⟩ := hrel
    have HJ := Lib.hid hk0
    have hk : k ≤ 64 := by omega
    clear hk0
    by_cases hlt : k < 64
    · have d0 : 0 ≤ (k : Int) * 1125899906842624 + (r : Int) := by omega
      have d1 : (k : Int) * 1125899906842624 + (r : Int) < 72057594037927936 := by omega
      have HT : Hid (Tab (wr.alloc (.cells #[.int .i64 ((k : Int) * 1125899906842624 + (r : Int))] 3)) (some ⟨wr.heap.size, 0, none⟩) 1 1 1 ([(k : Int) * 1125899906842624 + (r : Int)].map iC)) := Lib.hid (tab_lit wr 3 1 1 ([(k : Int) * 1125899906842624 + (r : Int)].map iC) #[.int .i64 ((k : Int) * 1125899906842624 + (r : Int))] rfl rfl (rows_of iC_len _) (by unfold maxLen; omega) _ rfl)
      have C3 := Lib.hid (repeat_one ((k : Int) * 1125899906842624 + (r : Int)) (some ⟨wr.heap.size, 0, none⟩) 1 n _ HT.out hn40)
      have HBA := Lib.hid (HW.out.alloc HW.out.size (.cells #[.int .i64 ((k : Int) * 1125899906842624 + (r : Int))] 3))
      clear HT
      have HC0 : Hid (∀ _ : Nat, 0 ≤ (k : Int) * 1125899906842624 + (r : Int) ∧ (k : Int) * 1125899906842624 + (r : Int) < 72057594037927936) := Lib.hid (fun _ => ⟨d0, d1⟩)
      clear d0 d1
      go_wp2_with fail
      refine C3.out.mono ?_
      rintro e v5 ⟨rfl, hO5, hb5⟩
      have hb6 := HBA.out.trans (hb5.mono HBA.out.size)
      rw [rep_listTo] at hO5
      clear hb5
      generalize (wr.alloc (.cells #[.int .i64 ((k : Int) * 1125899906842624 + (r : Int))] 3)).heap.size = G at hO5 ⊢
      have C6 := sum_any ap aq _ n cp n cq n n _ _ _ v5 (HTP.out.below hb6) (HTQ.out.below hb6) hO5.tab_of
      rw [sumE_listTo hn40 (fun i _ => by have := worthAt_bd L i; omega) (fun i _ => by have := levelAt_bd (most := 6) (by omega) Q i; omega) (fun i _ => HC0.out i), sumR_listTo (B := 1000) hn40 (by decide) (by decide) (fun i _ => worthAt_bd L i) (fun i _ => by have := levelAt_bd (most := 6) (by omega) Q i; omega) (fun i _ => HC0.out i)] at C6
      have hbd := sumTo_bd (f := fun i => term (worthAt L i) (levelAt 6 Q i) ((k : Int) * 1125899906842624 + (r : Int))) (B := 1000 * 1048576) (n := n) (fun i hi => term_bd (worthAt_bd L i).1 (worthAt_bd L i).2 (by decide) (by have := levelAt_bd (most := 6) (by omega) Q i; omega))
      obtain ⟨C, hC⟩ : ∃ C, sumTo (fun i => term (worthAt L i) (levelAt 6 Q i) ((k : Int) * 1125899906842624 + (r : Int))) n = C := ⟨_, rfl⟩
      rw [hC] at C6 hbd
      have HC := Lib.hid hC
      have hC0 : -42000000000 ≤ C := by omega
      have hC1 : C ≤ 42000000000 := by omega
      have C6 := Lib.hid C6
      have HB5 := Lib.hid hb6
      clear hO5 hb6 C3 hC hbd HBA HC0
      go_wp2_with fail
      refine C6.out.mono ?_
      rintro e v7 ⟨rfl, hb7⟩
      have HB7 := Lib.hid (below_on HB5.out hb7)
      clear hb7 C6 HB5
      go_wp2_with fail
      go_roundg (64 - (k + 1))
      case measure => have := HJ.out; omega
      case rel => exact ⟨k + 1, A + C, by omega, by go_num, by go_num, by omega, by omega, Lib.hid (by rw [sumTo, ← HA.out, HC.out]), HB7⟩
    · obtain rfl : k = 64 := by omega
      have C7 := keepSum_to ap n cp (worthAt L) wr (HTP.out.below HW.out) hn40 (fun i _ => by have := worthAt_bd L i; omega)
      have hbd := sumTo_bd (f := worthAt L) (B := 1000) (n := n) (fun i _ => worthAt_bd L i)
      have hAS := HA.out.trans HSUM.out
      clear HA HSUM
      generalize sumTo (worthAt L) n = S at *
      have s0 : -40000 ≤ S := by omega
      have s1 : S ≤ 40000 := by omega
      have C7 := Lib.hid C7
      subst hAS
      clear hbd hA0 hA1
      have t3 : (S * 64 == S * 64) = true := by simp
      have q3 : wrap64 (S * 2 ^ 6) = S * 64 := by rw [show (2 : Int) ^ 6 = 64 from rfl]; exact wrap_id (by omega) (by omega)
      go_wp2_with fail
      refine C7.out.mono ?_
      rintro e w8 ⟨rfl, hw8⟩
      rw [← hw8]
      clear hw8 C7
      go_wp2
      go_ret
      exact ⟨rfl, below_on HB2.out HW.out⟩

set_option maxRecDepth 100000 in
theorem lifted (os : Os) (started : os.Started) (H : Type) (enc : TypeId × Value → H) :
    ReturnsInHanded {} Try.checked os 5 .any (Rows.estMeanSpec.pre6 enc Try.prog Try.f5 Rows.estMeanRow.domain false) (Rows.estMeanSpec.post enc Try.prog Try.f5 false true false false) := by
  refine returnsInHanded_of_change_sized (C := Try.checked) own started (by kernel_rfl) Try.func5
    (ChangeSpec.witness6 (enc := enc) (C := Try.checked) false ⟨#[], #[.slice none 0 0, .slice none 0 0, .int .i64 0], []⟩ 8 (by kernel_rfl) (by kernel_rfl) (by kernel_rfl) (by kernel_rfl)) ?_
  intro W base args ds gs before hval0 hW hcnd hsz0 _
  have hval : ∀ (j : Nat) t v, Try.f5.params[j]? = some t → args[j]? = some v → Value.okWide Try.prog W .any base t v := hval0
  have hW' := hW
  obtain ⟨p, q, hA0, hV, rfl, hfz, hnd⟩ := hW
  have hA : DataW.TrodAll enc Try.prog W 0 (fun _ => true) true Try.f5.params.toList args.toList ds p := hA0
  have hsz : (DataW.weightsEach Try.prog (Try.f5.params.toList ++ Rows.estMeanSpec.plain.varTypes Try.prog) (ds ++ gs)).all (· ≤ reachBytes) = true := hsz0
  rw [Try.params5] at hA hval hsz
  obtain ⟨v0, vs0, d0, ds0, p0, q0, hargs, rfl, rfl, h0, r0⟩ := trodAll_cons hA
  obtain ⟨v1, vs1, d1, ds1, p1, q1, rfl, rfl, rfl, h1, r1⟩ := trodAll_cons r0
  obtain ⟨v2, vs2, d2, ds2, p2, q2, rfl, rfl, rfl, h2, r2⟩ := trodAll_cons r1
  obtain ⟨rfl, rfl, rfl⟩ := trodAll_nil r2
  obtain rfl : args = #[v0, v1, v2] := by cases args; simp_all
  obtain ⟨rfl, rfl⟩ := trodVars_none hV
  have k0 := h0
  have L0 := light_of hsz (j := 0) (t := 22) (d := d0) rfl rfl
  have lt0 : ∀ x ∈ p0, x.block < W.heap.size := by obtain ⟨m, hm⟩ := k0; exact DataW.trod_lt m _ _ _ hm
  obtain ⟨a0, len0, cap0, rfl⟩ := okWide_slice Try.underlying22 (hval 0 22 v0 rfl rfl)
  obtain ⟨n0, f0⟩ := trod_slice_of Try.underlying22 h0
  have F0 := And.intro f0 L0
  obtain ⟨x0, e0, t0, b0, o0⟩ := el_slice (w := W) (k := 1) iC wfI (by decide) Try.underlying22 (by kernel_rfl) (el_int Try.underlying3) (B := 8) (by kernel_rfl) _ _ _ F0.1 F0.2
  simp only [slC, List.cons.injEq, Value.slice.injEq, and_true] at e0
  obtain ⟨rfl, rfl, rfl⟩ := e0
  have k1 := h1
  have L1 := light_of hsz (j := 1) (t := 22) (d := d1) rfl rfl
  have lt1 : ∀ x ∈ p1, x.block < W.heap.size := by obtain ⟨m, hm⟩ := k1; exact DataW.trod_lt m _ _ _ hm
  obtain ⟨a1, len1, cap1, rfl⟩ := okWide_slice Try.underlying22 (hval 1 22 v1 rfl rfl)
  obtain ⟨n1, f1⟩ := trod_slice_of Try.underlying22 h1
  have F1 := And.intro f1 L1
  obtain ⟨x1, e1, t1, b1, o1⟩ := el_slice (w := W) (k := 1) iC wfI (by decide) Try.underlying22 (by kernel_rfl) (el_int Try.underlying3) (B := 8) (by kernel_rfl) _ _ _ F1.1 F1.2
  simp only [slC, List.cons.injEq, Value.slice.injEq, and_true] at e1
  obtain ⟨rfl, rfl, rfl⟩ := e1
  have k2 := h2
  have L2 := light_of hsz (j := 2) (t := 3) (d := d2) rfl rfl
  have lt2 : ∀ x ∈ p2, x.block < W.heap.size := by obtain ⟨m, hm⟩ := k2; exact DataW.trod_lt m _ _ _ hm
  obtain ⟨x2, rfl, rfl, rfl, w2⟩ := open_int Try.underlying3 (hval 2 3 v2 rfl rfl) h2
  clear hA0 hval0
  refine (walk x0 x1 x2 W t0 b0 o0 t1 b1 o1 w2).mono fun e W' ⟨he, hg⟩ => ?_
  subst he
  exact ⟨_, rfl, _, _, _, [], _, [], hW', trodAll_mk1 (shut_bool Try.underlying4 _), (trodAll_cons_mk (Below.trod laidOut (by kernel_rfl) (of_decide_eq_true (by kernel_rfl)) k0 hg lt0) (trodAll_cons_mk (Below.trod laidOut (by kernel_rfl) (of_decide_eq_true (by kernel_rfl)) k1 hg lt1) (trodAll_cons_mk (Below.trod laidOut (by kernel_rfl) (of_decide_eq_true (by kernel_rfl)) k2 hg lt2) trodAll_mk0))), rfl, hg.frame _, fun h => by cases h⟩

theorem over : Rows.estMeanRow.holds Try.pinned (OpenSpec.ofChange Rows.estMeanSpec) :=
  OpenClaim.holds_of_wide 5 Try.f5 rfl rfl rfl rfl rfl rfl rfl ⟨rfl, rfl, rfl, rfl, rfl⟩ rfl rfl rfl rfl rfl (by kernel_rfl) Try.func5 (by kernel_rfl)
    (of_decide_eq_true (by kernel_rfl)) (by unfold Func.isWrapper; first | (rw [if_pos (by decide +kernel)]; kernel_rfl) | (rw [if_neg (by decide +kernel)]; exact ⟨rfl, rfl⟩))
    (fun os started H enc _ => lifted os started H enc)

/-- ████ THE STATEMENT ████ -/
theorem proved : Rows.EstMeanSaid :=
  over
#print axioms proved
end Go.Proofs.Ytfgcmlgdgmcffaa.estMean
