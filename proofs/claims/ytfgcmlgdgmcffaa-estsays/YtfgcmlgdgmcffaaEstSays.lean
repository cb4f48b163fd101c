/-
  'Rows.EstSaysSaid' is proved: for all arguments Sum and Spread answer what the document says. No condition.
-/
import Derived.Test.YtfgcmlgdgmcffaaRows
import Derived.Test.YtfgcmlgdgmcffaaShapes
import Derived.Test.YtfgcmlgdgmcffaaEstSum
import Derived.Test.YtfgcmlgdgmcffaaEstSpread
import Derived.Test.YtfgcmlgdgmcffaaRefEstSum
import Derived.Test.YtfgcmlgdgmcffaaRefEstWide
import Derived.Test.YtfgcmlgdgmcffaaLit
import Derived.WalkKit
import Derived.ProofKit
import Derived.OpenShut
import Derived.ShutString
import Derived.ChangeOld
import Derived.Below
namespace Go.Proofs.Ytfgcmlgdgmcffaa.estSays
open Go.ChangeShapes Go.WideShapes Go.ChangeAt Go.RowKit
open Go.ChangeMaps (open_string shut_string)
set_option linter.unusedVariables false

theorem own : ownKnob Try.prog.godebug = none := by kernel_rfl
theorem laidOut : laidOutB Try.prog = true := by kernel_rfl

open Est Span
theorem lit_wide : spreadR [3] [1] = 9 ∧ spreadE [3] [1] = 0 := by decide +kernel

set_option maxRecDepth 100000 in
set_option maxHeartbeats 2000000 in
theorem walk (x0 : Sl Int) (x1 : Sl Int) (x2 : Sl Int) (w : World) (t0 : Tab w x0.a x0.len x0.cap 1 (x0.l.map iC)) (b0 : x0.len * 8 ≤ 140737488351232) (o0 : ∀ z ∈ x0.l, wfI z) (t1 : Tab w x1.a x1.len x1.cap 1 (x1.l.map iC)) (b1 : x1.len * 8 ≤ 140737488351232) (o1 : ∀ z ∈ x1.l, wfI z) (t2 : Tab w x2.a x2.len x2.cap 1 (x2.l.map iC)) (b2 : x2.len * 8 ≤ 140737488351232) (o2 : ∀ z ∈ x2.l, wfI z) :
    Calls Try.prog 3 #[.slice x0.a x0.len x0.cap, .slice x1.a x1.len x1.cap, .slice x2.a x2.len x2.cap] w fun e w' => e = .returned (.bool true) ∧ Below w.heap.size w w' := by
  obtain ⟨a, len, cap, V⟩ := x0
  obtain ⟨a1, len1, cap1, L⟩ := x1
  obtain ⟨a2, len2, cap2, D⟩ := x2
  have C1 := Lib.hid (sum_any a a1 a2 len cap len1 cap1 len2 cap2 V L D w t0 t1 t2)
  have C2 := Lib.hid (fun W (hb : Below w.heap.size w W) => spread_any a a1 len cap len1 cap1 V L W (t0.below hb) (t1.below hb))
  have C4 := Lib.hid (fun W (hb : Below w.heap.size w W) => refSum_any a a1 a2 len cap len1 cap1 len2 cap2 V L D W (t0.below hb) (t1.below hb) (t2.below hb))
  have C5 := Lib.hid (fun W (hb : Below w.heap.size w W) => refSpread_any a a1 len cap len1 cap1 V L W (t0.below hb) (t1.below hb))
  have C3 : Hid (∀ W : World, Calls Try.prog 15 #[.slice (some ⟨W.heap.size, 0, none⟩) 1 1, .slice (some ⟨W.heap.size + 1, 0, none⟩) 1 1] ((W.alloc (.cells #[.int .i64 3] 3)).alloc (.cells #[.int .i64 1] 3)) fun e w' => e = .returned (.tuple #[.int .i64 9, .int .i64 0]) ∧ ((W.alloc (.cells #[.int .i64 3] 3)).alloc (.cells #[.int .i64 1] 3)) = w') := Lib.hid (fun W => by
    have h1 : Tab ((W.alloc (.cells #[.int .i64 3] 3)).alloc (.cells #[.int .i64 1] 3)) (some ⟨W.heap.size, 0, none⟩) 1 1 1 ([(3 : Int)].map iC) := (tab_lit W 3 1 1 ([(3 : Int)].map iC) #[.int .i64 3] rfl rfl (rows_of iC_len _) (by decide) _ rfl).below ((Below.refl _ _).alloc (Nat.le_refl _) _)
    have h2 : Tab ((W.alloc (.cells #[.int .i64 3] 3)).alloc (.cells #[.int .i64 1] 3)) (some ⟨W.heap.size + 1, 0, none⟩) 1 1 1 ([(1 : Int)].map iC) := tab_lit (W.alloc (.cells #[.int .i64 3] 3)) 3 1 1 ([(1 : Int)].map iC) #[.int .i64 1] rfl rfl (rows_of iC_len _) (by decide) _ (by simp)
    have h3 := spread_any _ _ 1 1 1 1 [3] [1] _ h1 h2
    rw [lit_wide.1, lit_wide.2] at h3
    exact h3)
  have s1 : (sumR V L D == sumR V L D) = true := by simp
  have s2 : (sumE V L D == sumE V L D) = true := by simp
  have s3 : (spreadR V L == spreadR V L) = true := by simp
  have s4 : (spreadE V L == spreadE V L) = true := by simp
  clear t0 t1 t2 o0 o1 o2
  generalize sumR V L D = A at *
  generalize sumE V L D = E at *
  generalize spreadR V L = B at *
  generalize spreadE V L = F at *
  go_enter Try.func3, Try.ntmps3
  go_wp2_with fail
  refine C1.out.mono ?_
  rintro e v1 ⟨rfl, hb1⟩
  have HB1 := Lib.hid hb1
  clear hb1 C1
  go_wp2_with fail
  refine (C2.out _ HB1.out).mono ?_
  rintro e v2 ⟨rfl, hv2⟩
  rw [← hv2]
  clear hv2 C2
  go_wp2_with fail
  refine (C3.out _).mono ?_
  rintro e v3 ⟨rfl, hv3⟩
  rw [← hv3]
  clear hv3 C3
  have HB3 := Lib.hid ((HB1.out.alloc HB1.out.size (.cells #[.int .i64 3] 3)).alloc (Nat.le_trans HB1.out.size (by simp)) (.cells #[.int .i64 1] 3))
  generalize ((v1.alloc (.cells #[.int .i64 3] 3)).alloc (.cells #[.int .i64 1] 3)) = v4 at *
  clear HB1
  go_wp2_with fail
  refine (C4.out _ HB3.out).mono ?_
  rintro e v5 ⟨rfl, hv5⟩
  rw [← hv5]
  clear hv5 C4
  go_wp2_with fail
  refine (C5.out _ HB3.out).mono ?_
  rintro e v5 ⟨rfl, hv5⟩
  rw [← hv5]
  clear hv5 C5
  go_wp2
  go_ret
  exact ⟨rfl, HB3.out⟩

set_option maxRecDepth 100000 in
theorem lifted (os : Os) (started : os.Started) (H : Type) (enc : TypeId × Value → H) :
    ReturnsInHanded {} Try.checked os 3 .any (Rows.estSaysSpec.pre6 enc Try.prog Try.f3 Rows.estSaysRow.domain false) (Rows.estSaysSpec.post enc Try.prog Try.f3 false true false false) := by
  refine returnsInHanded_of_change_sized (C := Try.checked) own started (by kernel_rfl) Try.func3
    (ChangeSpec.witness6 (enc := enc) (C := Try.checked) false ⟨#[], #[.slice none 0 0, .slice none 0 0, .slice none 0 0], []⟩ 8 (by kernel_rfl) (by kernel_rfl) (by kernel_rfl) (by kernel_rfl)) ?_
  intro W base args ds gs before hval0 hW hcnd hsz0 _
  have hval : ∀ (j : Nat) t v, Try.f3.params[j]? = some t → args[j]? = some v → Value.okWide Try.prog W .any base t v := hval0
  have hW' := hW
  obtain ⟨p, q, hA0, hV, rfl, hfz, hnd⟩ := hW
  have hA : DataW.TrodAll enc Try.prog W 0 (fun _ => true) true Try.f3.params.toList args.toList ds p := hA0
  have hsz : (DataW.weightsEach Try.prog (Try.f3.params.toList ++ Rows.estSaysSpec.plain.varTypes Try.prog) (ds ++ gs)).all (· ≤ reachBytes) = true := hsz0
  rw [Try.params3] at hA hval hsz
  obtain ⟨v0, vs0, d0, ds0, p0, q0, hargs, rfl, rfl, h0, r0⟩ := trodAll_cons hA
  obtain ⟨v1, vs1, d1, ds1, p1, q1, rfl, rfl, rfl, h1, r1⟩ := trodAll_cons r0
  obtain ⟨v2, vs2, d2, ds2, p2, q2, rfl, rfl, rfl, h2, r2⟩ := trodAll_cons r1
  obtain ⟨rfl, rfl, rfl⟩ := trodAll_nil r2
  obtain rfl : args = #[v0, v1, v2] := by cases args; simp_all
  obtain ⟨rfl, rfl⟩ := trodVars_none hV
  have k0 := h0
  have L0 := light_of hsz (j := 0) (t := 22) (d := d0) rfl rfl
  have lt0 : ∀ x ∈ p0, x.block < W.heap.size := by obtain ⟨m, hm⟩ := k0; exact DataW.trod_lt m _ _ _ hm
  obtain ⟨a0, len0, cap0, rfl⟩ := okWide_slice Try.underlying22 (hval 0 22 v0 rfl rfl)
  obtain ⟨n0, f0⟩ := trod_slice_of Try.underlying22 h0
  have F0 := And.intro f0 L0
  obtain ⟨x0, e0, t0, b0, o0⟩ := el_slice (w := W) (k := 1) iC wfI (by decide) Try.underlying22 (by kernel_rfl) (el_int Try.underlying3) (B := 8) (by kernel_rfl) _ _ _ F0.1 F0.2
  simp only [slC, List.cons.injEq, Value.slice.injEq, and_true] at e0
  obtain ⟨rfl, rfl, rfl⟩ := e0
  have k1 := h1
  have L1 := light_of hsz (j := 1) (t := 22) (d := d1) rfl rfl
  have lt1 : ∀ x ∈ p1, x.block < W.heap.size := by obtain ⟨m, hm⟩ := k1; exact DataW.trod_lt m _ _ _ hm
  obtain ⟨a1, len1, cap1, rfl⟩ := okWide_slice Try.underlying22 (hval 1 22 v1 rfl rfl)
  obtain ⟨n1, f1⟩ := trod_slice_of Try.underlying22 h1
  have F1 := And.intro f1 L1
  obtain ⟨x1, e1, t1, b1, o1⟩ := el_slice (w := W) (k := 1) iC wfI (by decide) Try.underlying22 (by kernel_rfl) (el_int Try.underlying3) (B := 8) (by kernel_rfl) _ _ _ F1.1 F1.2
  simp only [slC, List.cons.injEq, Value.slice.injEq, and_true] at e1
  obtain ⟨rfl, rfl, rfl⟩ := e1
  have k2 := h2
  have L2 := light_of hsz (j := 2) (t := 22) (d := d2) rfl rfl
  have lt2 : ∀ x ∈ p2, x.block < W.heap.size := by obtain ⟨m, hm⟩ := k2; exact DataW.trod_lt m _ _ _ hm
  obtain ⟨a2, len2, cap2, rfl⟩ := okWide_slice Try.underlying22 (hval 2 22 v2 rfl rfl)
  obtain ⟨n2, f2⟩ := trod_slice_of Try.underlying22 h2
  have F2 := And.intro f2 L2
  obtain ⟨x2, e2, t2, b2, o2⟩ := el_slice (w := W) (k := 1) iC wfI (by decide) Try.underlying22 (by kernel_rfl) (el_int Try.underlying3) (B := 8) (by kernel_rfl) _ _ _ F2.1 F2.2
  simp only [slC, List.cons.injEq, Value.slice.injEq, and_true] at e2
  obtain ⟨rfl, rfl, rfl⟩ := e2
  clear hA0 hval0
  refine (walk x0 x1 x2 W t0 b0 o0 t1 b1 o1 t2 b2 o2).mono fun e W' ⟨he, hg⟩ => ?_
  subst he
  exact ⟨_, rfl, _, _, _, [], _, [], hW', trodAll_mk1 (shut_bool Try.underlying4 _), (trodAll_cons_mk (Below.trod laidOut (by kernel_rfl) (of_decide_eq_true (by kernel_rfl)) k0 hg lt0) (trodAll_cons_mk (Below.trod laidOut (by kernel_rfl) (of_decide_eq_true (by kernel_rfl)) k1 hg lt1) (trodAll_cons_mk (Below.trod laidOut (by kernel_rfl) (of_decide_eq_true (by kernel_rfl)) k2 hg lt2) trodAll_mk0))), rfl, hg.frame _, fun h => by cases h⟩

theorem over : Rows.estSaysRow.holds Try.pinned (OpenSpec.ofChange Rows.estSaysSpec) :=
  OpenClaim.holds_of_wide 3 Try.f3 rfl rfl rfl rfl rfl rfl rfl ⟨rfl, rfl, rfl, rfl, rfl⟩ rfl rfl rfl rfl rfl (by kernel_rfl) Try.func3 (by kernel_rfl)
    (of_decide_eq_true (by kernel_rfl)) (by unfold Func.isWrapper; first | (rw [if_pos (by decide +kernel)]; kernel_rfl) | (rw [if_neg (by decide +kernel)]; exact ⟨rfl, rfl⟩))
    (fun os started H enc _ => lifted os started H enc)

/-- ████ THE STATEMENT ████ -/
theorem proved : Rows.EstSaysSaid :=
  over
#print axioms proved
end Go.Proofs.Ytfgcmlgdgmcffaa.estSays
