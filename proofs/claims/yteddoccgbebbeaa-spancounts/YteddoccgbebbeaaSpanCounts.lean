/-
  'Rows.SpanCountsSaid' is proved: over all random values of one remainder, what the kept spans represent is every span as often as there are such values. No condition.
-/
import Derived.Test.YteddoccgbebbeaaRows
import Derived.Test.YteddoccgbebbeaaShapes
import Derived.Test.YteddoccgbebbeaaSpanKept
import Derived.Test.YteddoccgbebbeaaSpanSums
import Derived.Test.YteddoccgbebbeaaKeepSpans
import Derived.Test.YteddoccgbebbeaaEqualBools
import Derived.Test.YteddoccgbebbeaaLit
import Derived.Deep.DeepCutAuto
import Derived.Deep.LoopGhost
import Derived.WalkKit
import Derived.ProofKit
import Derived.OpenShut
import Derived.ShutString
import Derived.ChangeOld
import Derived.Below
namespace Go.Proofs.Yteddoccgbebbeaa.spanCounts
open Go.ChangeShapes Go.WideShapes Go.ChangeAt Go.RowKit
open Go.ChangeMaps (open_string shut_string)
set_option linter.unusedVariables false

theorem own : ownKnob Try.prog.godebug = none := by kernel_rfl
theorem laidOut : laidOutB Try.prog = true := by kernel_rfl

open Span
theorem lit_ok : keptE [((-1 : Int), (3 : Int))] 1 = 0 := by decide
theorem lit_count : countTo [((-1 : Int), (3 : Int))] [true] 1 = 8 := by decide

set_option maxRecDepth 100000 in
set_option maxHeartbeats 2000000 in
theorem walk (x0 : Sl (Sl Int)) (x1 : Int) (w : World) (t0 : Tab w x0.a x0.len x0.cap 1 (x0.l.map slC)) (b0 : x0.len * 24 ≤ 140737488351232) (o0 : ∀ z ∈ x0.l, (fun y : Sl Int => Tab w y.a y.len y.cap 1 (y.l.map iC) ∧ y.len * 8 ≤ 140737488351232 ∧ ∀ z ∈ y.l, wfI z) z) (w1 : (Lit.int .i64 x1).wf = true) :
    Calls Try.prog 10 #[.slice x0.a x0.len x0.cap, .int .i64 x1] w fun e w' => e = .returned (.bool true) ∧ Below w.heap.size w w' := by
  obtain ⟨a, len, cap, L⟩ := x0
  have hm := t0.hmax
  have hle := t0.hle
  unfold maxLen at hm
  have b1 := wf_i64 w1
  have hb0 : Below w.heap.size w ((w.alloc (.cells #[.int .i64 (-1), .int .i64 3] 44)).alloc (.cells #[.bool true] 4)) := ((Below.refl _ _).alloc (Nat.le_refl _) _).alloc (by simp) _
  have C0 := count_ok (some ⟨w.heap.size, 0, none⟩) (some ⟨w.heap.size + 1, 0, none⟩) 1 1 1 1 [((-1 : Int), (3 : Int))] [true] ((w.alloc (.cells #[.int .i64 (-1), .int .i64 3] 44)).alloc (.cells #[.bool true] 4)) ((tab_lit w 44 2 1 ([((-1 : Int), (3 : Int))].map iiC) #[.int .i64 (-1), .int .i64 3] rfl rfl (rows_of iiC_len _) (by decide) _ rfl).below ((Below.refl _ _).alloc (Nat.le_refl _) _)) (tab_lit (w.alloc (.cells #[.int .i64 (-1), .int .i64 3] 44)) 4 1 1 ([true].map bC) #[.bool true] rfl rfl (rows_of bC_len _) (by decide) _ (by simp)) lit_ok
  rw [lit_count] at C0
  have C0 := Lib.hid C0
  have CS := Lib.hid (fun W (hb : Below w.heap.size w W) => spans_any a len cap L 6 W (t0.below hb) (fun z hz => ⟨((o0 z hz).1).below hb, (o0 z hz).2.2⟩) (by decide) (by decide))
  have HOK : Hid (spansE (spansOf 6 (L.take 40)) = 0) := Lib.hid (spansOf_ok (by decide) (by decide) (by rw [List.length_take]; omega))
  have hsl : (spansOf 6 (L.take 40)).length ≤ 40 := by rw [spansOf_len, List.length_take]; omega
  have HS6 : Hid (∀ (i : Nat) (x : Int × Int), (spansOf 6 (L.take 40))[i]? = some x → 0 ≤ x.2 ∧ x.2 ≤ 6) := Lib.hid (fun i x hx => (spansOf_bd (by decide) hx).2.2)
  clear t0 o0
  generalize spansOf 6 (L.take 40) = s at *
  have HR := Lib.hid (fun W => within_int x1 1125899906842624 W b1 (by omega) (by omega))
  have dr := withI_bd x1 1125899906842624 (by omega)
  generalize withI x1 1125899906842624 = r at *
  obtain ⟨r, rfl⟩ := Int.eq_ofNat_of_zero_le dr.1
  have hr : r < 1125899906842624 := by omega
  clear dr b1 w1
  go_enter Try.func10, Try.ntmps10
  go_wp2_with fail
  refine C0.out.mono ?_
  rintro e v1 ⟨rfl, hb1⟩
  have HB1 := Lib.hid (below_on hb0 hb1)
  clear hb0 hb1 C0
  go_wp2_with fail
  refine (CS.out _ HB1.out).mono ?_
  rintro e v3 ⟨s3, rfl, hO3, hb3⟩
  obtain ⟨q3, cap3, rfl, hT3⟩ := hO3.tab
  rw [List.length_map] at hT3 ⊢
  obtain ⟨n, hn⟩ : ∃ n, s.length = n := ⟨_, rfl⟩
  rw [hn] at hT3 hsl ⊢
  have HT3 := Lib.hid hT3
  have HB3 := Lib.hid (below_on HB1.out hb3)
  have HN := Lib.hid hn
  clear HB1 hb3 hO3 hT3 CS hn
  have HSUM := Lib.hid (all_sum (low := (r : Int)) HS6.out (by omega) (by omega) n (by rw [HN.out]; exact Nat.le_refl _))
  have HBD := Lib.hid (fun K => countTo_bd (l := s) (K := K) (fun i x hx => by have := HS6.out i x hx; omega) n)
  go_wp2_with fail
  refine (HR.out _).mono ?_
  rintro e w4 ⟨rfl, rfl⟩
  go_wp2_with fail
  go_loopg [8, 31] 64 (fun g c i wr => ∃ (k : Nat) (A : Int), k + g = 64 ∧ i = .int .i64 k ∧ c = .int .i64 A ∧ 0 ≤ A ∧ A ≤ (k : Int) * 41943040 ∧ Hid (A = sumTo (fun i => countTo s (keptL s ((i : Int) * 1125899906842624 + (r : Int))) n) k) ∧ Hid (Below v3.heap.size v3 wr))
  case atStart => exact ⟨0, 0, by omega, rfl, rfl, by omega, by omega, Lib.hid rfl, Lib.hid (Below.refl _ _)⟩
  case round =>
    obtain ⟨k, A, hk0, rfl, rfl, hA0, hA1, HA, HW⟩ := hrel
    have HJ := Lib.hid hk0
    have hk : k ≤ 64 := by omega
    clear hk0
    by_cases hlt : k < 64
    · have C4 := Lib.hid (kept_ok q3 n cap3 s ((k : Int) * 1125899906842624 + (r : Int)) wr (HT3.out.below HW.out) HOK.out (by omega) (by omega))
      go_wp2_with fail
      refine C4.out.mono ?_
      rintro e v5 ⟨s5, rfl, hO5, hb5⟩
      obtain ⟨q5, cap5, rfl, hT5⟩ := hO5.tab
      rw [List.length_map, keptL_len, HN.out] at hT5 ⊢
      have C6 := count_ok q3 q5 n cap3 n cap5 s _ v5 (HT3.out.below (below_on HW.out hb5)) hT5 (by unfold keptE; rw [HOK.out, if_pos rfl, HN.out, if_pos rfl])
      have hbd := HBD.out (keptL s ((k : Int) * 1125899906842624 + (r : Int)))
      obtain ⟨C, hC⟩ : ∃ C, countTo s (keptL s ((k : Int) * 1125899906842624 + (r : Int))) n = C := ⟨_, rfl⟩
      rw [hC] at C6 hbd
      have HC := Lib.hid hC
      have hC0 := hbd.1
      have hC1 : C ≤ 41943040 := by omega
      have C6 := Lib.hid C6
      have HB5 := Lib.hid (below_on HW.out hb5)
      clear hO5 hT5 hb5 C4 hC hbd
      go_wp2_with fail
      refine C6.out.mono ?_
      rintro e v7 ⟨rfl, hb7⟩
      have HB7 := Lib.hid (below_on HB5.out hb7)
      clear hb7 C6 HB5
      go_wp2_with fail
      go_roundg (64 - (k + 1))
      case measure => have := HJ.out; omega
      case rel => exact ⟨k + 1, A + C, by omega, by go_num, by go_num, by omega, by omega, Lib.hid (by rw [sumTo, ← HA.out, HC.out]), HB7⟩
    · obtain rfl : k = 64 := by omega
      obtain rfl : A = (n : Int) * 64 := HA.out.trans HSUM.out
      have t3 : (((n : Int) * 64) == ((n : Int) * 64)) = true := by simp
      go_wp2
      go_ret
      exact ⟨rfl, below_on HB3.out HW.out⟩

set_option maxRecDepth 100000 in
theorem lifted (os : Os) (started : os.Started) (H : Type) (enc : TypeId × Value → H) :
    ReturnsInHanded {} Try.checked os 10 .any (Rows.spanCountsSpec.pre6 enc Try.prog Try.f10 Rows.spanCountsRow.domain false) (Rows.spanCountsSpec.post enc Try.prog Try.f10 false true false false) := by
  refine returnsInHanded_of_change_sized (C := Try.checked) own started (by kernel_rfl) Try.func10
    (ChangeSpec.witness6 (enc := enc) (C := Try.checked) false ⟨#[], #[.slice none 0 0, .int .i64 0], []⟩ 8 (by kernel_rfl) (by kernel_rfl) (by kernel_rfl) (by kernel_rfl)) ?_
  intro W base args ds gs before hval0 hW hcnd hsz0 _
  have hval : ∀ (j : Nat) t v, Try.f10.params[j]? = some t → args[j]? = some v → Value.okWide Try.prog W .any base t v := hval0
  have hW' := hW
  obtain ⟨p, q, hA0, hV, rfl, hfz, hnd⟩ := hW
  have hA : DataW.TrodAll enc Try.prog W 0 (fun _ => true) true Try.f10.params.toList args.toList ds p := hA0
  have hsz : (DataW.weightsEach Try.prog (Try.f10.params.toList ++ Rows.spanCountsSpec.plain.varTypes Try.prog) (ds ++ gs)).all (· ≤ reachBytes) = true := hsz0
  rw [Try.params10] at hA hval hsz
  obtain ⟨v0, vs0, d0, ds0, p0, q0, hargs, rfl, rfl, h0, r0⟩ := trodAll_cons hA
  obtain ⟨v1, vs1, d1, ds1, p1, q1, rfl, rfl, rfl, h1, r1⟩ := trodAll_cons r0
  obtain ⟨rfl, rfl, rfl⟩ := trodAll_nil r1
  obtain rfl : args = #[v0, v1] := by cases args; simp_all
  obtain ⟨rfl, rfl⟩ := trodVars_none hV
  have k0 := h0
  have L0 := light_of hsz (j := 0) (t := 57) (d := d0) rfl rfl
  have lt0 : ∀ x ∈ p0, x.block < W.heap.size := by obtain ⟨m, hm⟩ := k0; exact DataW.trod_lt m _ _ _ hm
  obtain ⟨a0, len0, cap0, rfl⟩ := okWide_slice Try.underlying57 (hval 0 57 v0 rfl rfl)
  obtain ⟨n0, f0⟩ := trod_slice_of Try.underlying57 h0
  have F0 := And.intro f0 L0
  obtain ⟨x0, e0, t0, b0, o0⟩ := el_slice (w := W) (k := 1) slC (fun y : Sl Int => Tab W y.a y.len y.cap 1 (y.l.map iC) ∧ y.len * 8 ≤ 140737488351232 ∧ ∀ z ∈ y.l, wfI z) (by decide) Try.underlying57 (by kernel_rfl) (el_slice (k := 1) iC wfI (by decide) Try.underlying22 (by kernel_rfl) (el_int Try.underlying3) (B := 8) (by kernel_rfl)) (B := 24) (by kernel_rfl) _ _ _ F0.1 F0.2
  simp only [slC, List.cons.injEq, Value.slice.injEq, and_true] at e0
  obtain ⟨rfl, rfl, rfl⟩ := e0
  have k1 := h1
  have L1 := light_of hsz (j := 1) (t := 3) (d := d1) rfl rfl
  have lt1 : ∀ x ∈ p1, x.block < W.heap.size := by obtain ⟨m, hm⟩ := k1; exact DataW.trod_lt m _ _ _ hm
  obtain ⟨x1, rfl, rfl, rfl, w1⟩ := open_int Try.underlying3 (hval 1 3 v1 rfl rfl) h1
  clear hA0 hval0
  refine (walk x0 x1 W t0 b0 o0 w1).mono fun e W' ⟨he, hg⟩ => ?_
  subst he
  exact ⟨_, rfl, _, _, _, [], _, [], hW', trodAll_mk1 (shut_bool Try.underlying4 _), (trodAll_cons_mk (Below.trod laidOut (by kernel_rfl) (of_decide_eq_true (by kernel_rfl)) k0 hg lt0) (trodAll_cons_mk (Below.trod laidOut (by kernel_rfl) (of_decide_eq_true (by kernel_rfl)) k1 hg lt1) trodAll_mk0)), rfl, hg.frame _, fun h => by cases h⟩

theorem over : Rows.spanCountsRow.holds Try.pinned (OpenSpec.ofChange Rows.spanCountsSpec) :=
  OpenClaim.holds_of_wide 10 Try.f10 rfl rfl rfl rfl rfl rfl rfl ⟨rfl, rfl, rfl, rfl, rfl⟩ rfl rfl rfl rfl rfl (by kernel_rfl) Try.func10 (by kernel_rfl)
    (of_decide_eq_true (by kernel_rfl)) (by unfold Func.isWrapper; first | (rw [if_pos (by decide +kernel)]; kernel_rfl) | (rw [if_neg (by decide +kernel)]; exact ⟨rfl, rfl⟩))
    (fun os started H enc _ => lifted os started H enc)

/-- ████ THE STATEMENT ████ -/
theorem proved : Rows.SpanCountsSaid :=
  over
#print axioms proved
end Go.Proofs.Yteddoccgbebbeaa.spanCounts
