/-
  'Rows.EvenQuotaSaid' is proved: the counts of k even points sum to k, and each differs from its share by less than 1. No condition.
-/
import Derived.Test.YteddoccgbebbeaaRows
import Derived.Test.YteddoccgbebbeaaShapes
import Derived.Test.YteddoccgbebbeaaCumEven
import Derived.Test.YteddoccgbebbeaaKeepSum
import Derived.Test.YteddoccgbebbeaaEqualInts
import Derived.Test.YteddoccgbebbeaaLit
import Derived.Deep.DeepCutAuto
import Derived.WalkKit
import Derived.ProofKit
import Derived.OpenShut
import Derived.ShutString
import Derived.ChangeOld
import Derived.Below
namespace Go.Proofs.Yteddoccgbebbeaa.evenQuota
open Go.ChangeShapes Go.WideShapes Go.ChangeAt Go.RowKit
open Go.ChangeMaps (open_string shut_string)
set_option linter.unusedVariables false

theorem own : ownKnob Try.prog.godebug = none := by kernel_rfl
theorem laidOut : laidOutB Try.prog = true := by kernel_rfl

open Cum
theorem wq : weightsE [1, 1] = 0 := by decide
theorem pq : evenL [1, 1] 4 0 = [2, 2] := by decide

set_option maxRecDepth 100000 in
set_option maxHeartbeats 2000000 in
theorem walk (x0 : Sl Int) (x1 : Int) (x2 : Int) (w : World) (t0 : Tab w x0.a x0.len x0.cap 1 (x0.l.map iC)) (b0 : x0.len * 8 ≤ 140737488351232) (o0 : ∀ z ∈ x0.l, wfI z) (w1 : (Lit.int .i64 x1).wf = true) (w2 : (Lit.int .i64 x2).wf = true) :
    Calls Try.prog 6 #[.slice x0.a x0.len x0.cap, .int .i64 x1, .int .i64 x2] w fun e w' => e = .returned (.bool true) ∧ Below w.heap.size w w' := by
  obtain ⟨a, len, cap, L⟩ := x0
  have hm := t0.hmax
  have hle := t0.hle
  unfold maxLen at hm
  have hb0 : Below w.heap.size w (w.alloc (.cells #[.int .i64 1, .int .i64 1] 3)) := (Below.refl _ _).alloc (Nat.le_refl _) _
  have C0 := even_ok (some ⟨w.heap.size, 0, none⟩) 2 2 [1, 1] 4 0 _ (tab_lit w 3 1 2 ([(1 : Int), 1].map iC) #[.int .i64 1, .int .i64 1] rfl rfl (rows_of iC_len _) (by decide) _ rfl) wq (by decide) (by decide) (by decide) (by decide)
  rw [pq] at C0
  have C0 := Lib.hid C0
  have HT := Lib.hid t0
  have hL := t0.hlen
  rw [List.length_map] at hL
  have hL' : L.length = len := hL
  have HL := Lib.hid hL'
  clear t0 o0 hL hL'
  go_enter Try.func6, Try.ntmps6
  go_wp2_with fail
  refine C0.out.mono ?_
  rintro e v1 ⟨s1, rfl, hO1, hb1⟩
  have hb1' := below_on hb0 hb1
  obtain ⟨q1, cap1, rfl, hT1⟩ := hO1.tab
  have E1 := Lib.hid (equal_ints q1 (some ⟨v1.heap.size, 0, none⟩) 2 cap1 2 2 [2, 2] [2, 2] (v1.alloc (.cells #[.int .i64 2, .int .i64 2] 3)) (hT1.below ((Below.refl _ _).alloc (Nat.le_refl _) _)) (tab_lit v1 3 1 2 ([(2 : Int), 2].map iC) #[.int .i64 2, .int .i64 2] rfl rfl (rows_of iC_len _) (by decide) _ rfl) true (by simp))
  have HB1 := Lib.hid (hb1'.alloc hb1'.size (.cells #[.int .i64 2, .int .i64 2] 3))
  clear hb0 hb1 hb1' hO1 hT1 C0
  go_wp2_with fail
  refine E1.out.mono ?_
  rintro e v2 ⟨rfl, hb2⟩
  have HB2 := Lib.hid (below_on HB1.out hb2)
  clear HB1 hb2 E1
  by_cases hE : weightsE L = 0
  case neg =>
    have C2 := Lib.hid (even_bad a len cap L x1 x2 v2 (HT.out.below HB2.out) hE)
    have t : (weightsE L != 0) = true := by simpa using hE
    clear hE
    generalize weightsE L = E at *
    go_wp2_with fail
    refine C2.out.mono ?_
    rintro e v3 ⟨rfl, hb3⟩
    go_wp2
    go_ret
    exact ⟨rfl, below_on HB2.out hb3⟩
  by_cases hA : x1 < 1 ∨ 1000 < x1 ∨ x2 < 0 ∨ L.sum ≤ x2
  · have C2 := Lib.hid (even_arg a len cap L x1 x2 v2 (HT.out.below HB2.out) hE hA)
    clear hE hA
    go_wp2_with fail
    refine C2.out.mono ?_
    rintro e v3 ⟨rfl, hb3⟩
    go_wp2
    go_ret
    exact ⟨rfl, below_on HB2.out hb3⟩
  have hx1 : 1 ≤ x1 := by omega
  have hx2 : x1 ≤ 1000 := by omega
  have hx3 : 0 ≤ x2 := by omega
  have hx4 : x2 < L.sum := by omega
  obtain ⟨k, rfl⟩ := Int.eq_ofNat_of_zero_le (show 0 ≤ x1 by omega)
  obtain ⟨z1, z2, z3⟩ := weightsE_zero hE
  have h40 : len ≤ 40 := by have := HL.out; omega
  have bA := sum_bd z2
  have bA2 : L.sum ≤ 40000000000000 := by omega
  have hz0 : ∀ x ∈ L, 0 ≤ x := fun x hx => (z2 x hx).1
  have C2 := Lib.hid (even_ok a len cap L k x2 v2 (HT.out.below HB2.out) hE (by omega) (by omega) hx3 hx4)
  have HEL := Lib.hid (evenL_len L k x2)
  have HES := Lib.hid (evenL_sum (l := L) (k := k) hx3 hx4)
  have HEB : Hid (∀ y ∈ evenL L k x2, 0 ≤ y ∧ y ≤ (k : Int)) := Lib.hid (fun y hy => tally_mem hy)
  have HQ := Lib.hid (fun (i : Nat) (x m : Int) (hx : L[i]? = some x) (hm : (evenL L k x2)[i]? = some m) => quota hz0 hx3 hx4 hx hm)
  rw [HL.out] at HEL
  have HZ := Lib.hid z2
  clear hA z1 z2 z3 hz0 hE bA hx4
  generalize evenL L k x2 = M at *
  have HSM := Lib.hid (fun (W : World) (hW : Below v2.heap.size v2 W) => keepSum_any a len cap L W ((HT.out.below HB2.out).below hW) h40 HZ.out)
  obtain ⟨A, hA⟩ : ∃ A, L.sum = A := ⟨_, rfl⟩
  rw [hA] at HSM bA2 HQ
  clear hA
  go_wp2_with fail
  refine C2.out.mono ?_
  rintro e v3 ⟨s3, rfl, hO3, hb3⟩
  obtain ⟨q3, cap3, rfl, hT3⟩ := hO3.tab
  rw [List.length_map, HEL.out] at hT3 ⊢
  have HT3 := Lib.hid hT3
  have HB3 := Lib.hid hb3
  have C3 := keepSum_any q3 len cap3 M v3 hT3 h40 (fun x hx => by have := HEB.out x hx; omega)
  rw [HES.out] at C3
  have C3 := Lib.hid C3
  have HTL := Lib.hid ((HT.out.below HB2.out).below hb3)
  clear hO3 hT3 hb3 C2
  go_wp2_with fail
  refine (HSM.out _ HB3.out).mono ?_
  rintro e w4 ⟨rfl, rfl⟩
  go_wp2_with fail
  refine C3.out.mono ?_
  rintro e w5 ⟨rfl, rfl⟩
  have t1 : ((k : Int) != (k : Int)) = false := by simp
  have t2 : ((len : Int) != (len : Int)) = false := by simp
  clear C3 HSM
  go_wp2_with fail
  clear t1 t2
  go_loopg [55] len (fun g i wr => ∃ j : Nat, j + g = len ∧ i = .int .i64 j ∧ wr = w5)
  case atStart => exact ⟨0, by omega, rfl, rfl⟩
  case round =>
    obtain ⟨j, hj0, rfl, rfl⟩ := hrel
    have HJ := Lib.hid hj0
    have hj : j ≤ len := by omega
    clear hj0
    by_cases hlt : j < len
    · obtain ⟨x, hx⟩ : ∃ x, L[j]? = some x := ⟨_, List.getElem?_eq_getElem (by rw [HL.out]; exact hlt)⟩
      obtain ⟨m, hmm⟩ : ∃ x, M[j]? = some x := ⟨_, List.getElem?_eq_getElem (by rw [HEL.out]; exact hlt)⟩
      obtain ⟨c1, o1, ha1, hbs1, d1⟩ := HTL.out.one (Below.refl _ _) (map_get hx)
      obtain ⟨c2, o2, ha2, hbs2, d2⟩ := HT3.out.one (Below.refl _ _) (map_get hmm)
      have hq := HQ.out j x m hx hmm
      have bx := HZ.out x (List.mem_of_getElem? hx)
      have bm := HEB.out m (List.mem_of_getElem? hmm)
      have p0 : 0 ≤ m * A := Int.mul_nonneg bm.1 (by omega)
      have p1 : m * A ≤ 1000 * A := Int.mul_le_mul_of_nonneg_right (by omega) (by omega)
      have p2 : m * A ≤ 40000000000000000 := by omega
      have r0 : 0 ≤ (k : Int) * x := Int.mul_nonneg (by omega) bx.1
      have r1 : (k : Int) * x ≤ 1000 * x := Int.mul_le_mul_of_nonneg_right (by omega) bx.1
      have r2 : (k : Int) * x ≤ 40000000000000000 := by omega
      have q1 := hq.1
      have q2 := hq.2
      subst ha1 ha2
      clear hx hmm hq bx bm p1 r1
      go_wp2_with fail
      go_roundg (len - (j + 1))
      case measure => have := HJ.out; omega
      case rel => exact ⟨j + 1, by omega, by go_num, rfl⟩
    · obtain rfl : j = len := by omega
      go_wp2
      go_ret
      exact ⟨rfl, below_on HB2.out HB3.out⟩

set_option maxRecDepth 100000 in
theorem lifted (os : Os) (started : os.Started) (H : Type) (enc : TypeId × Value → H) :
    ReturnsInHanded {} Try.checked os 6 .any (Rows.evenQuotaSpec.pre6 enc Try.prog Try.f6 Rows.evenQuotaRow.domain false) (Rows.evenQuotaSpec.post enc Try.prog Try.f6 false true false false) := by
  refine returnsInHanded_of_change_sized (C := Try.checked) own started (by kernel_rfl) Try.func6
    (ChangeSpec.witness6 (enc := enc) (C := Try.checked) false ⟨#[], #[.slice none 0 0, .int .i64 0, .int .i64 0], []⟩ 8 (by kernel_rfl) (by kernel_rfl) (by kernel_rfl) (by kernel_rfl)) ?_
  intro W base args ds gs before hval0 hW hcnd hsz0 _
  have hval : ∀ (j : Nat) t v, Try.f6.params[j]? = some t → args[j]? = some v → Value.okWide Try.prog W .any base t v := hval0
  have hW' := hW
  obtain ⟨p, q, hA0, hV, rfl, hfz, hnd⟩ := hW
  have hA : DataW.TrodAll enc Try.prog W 0 (fun _ => true) true Try.f6.params.toList args.toList ds p := hA0
  have hsz : (DataW.weightsEach Try.prog (Try.f6.params.toList ++ Rows.evenQuotaSpec.plain.varTypes Try.prog) (ds ++ gs)).all (· ≤ reachBytes) = true := hsz0
  rw [Try.params6] at hA hval hsz
  obtain ⟨v0, vs0, d0, ds0, p0, q0, hargs, rfl, rfl, h0, r0⟩ := trodAll_cons hA
  obtain ⟨v1, vs1, d1, ds1, p1, q1, rfl, rfl, rfl, h1, r1⟩ := trodAll_cons r0
  obtain ⟨v2, vs2, d2, ds2, p2, q2, rfl, rfl, rfl, h2, r2⟩ := trodAll_cons r1
  obtain ⟨rfl, rfl, rfl⟩ := trodAll_nil r2
  obtain rfl : args = #[v0, v1, v2] := by cases args; simp_all
  obtain ⟨rfl, rfl⟩ := trodVars_none hV
  have k0 := h0
  have L0 := light_of hsz (j := 0) (t := 22) (d := d0) rfl rfl
  have lt0 : ∀ x ∈ p0, x.block < W.heap.size := by obtain ⟨m, hm⟩ := k0; exact DataW.trod_lt m _ _ _ hm
  obtain ⟨a0, len0, cap0, rfl⟩ := okWide_slice Try.underlying22 (hval 0 22 v0 rfl rfl)
  obtain ⟨n0, f0⟩ := trod_slice_of Try.underlying22 h0
  have F0 := And.intro f0 L0
  obtain ⟨x0, e0, t0, b0, o0⟩ := el_slice (w := W) (k := 1) iC wfI (by decide) Try.underlying22 (by kernel_rfl) (el_int Try.underlying3) (B := 8) (by kernel_rfl) _ _ _ F0.1 F0.2
  simp only [slC, List.cons.injEq, Value.slice.injEq, and_true] at e0
  obtain ⟨rfl, rfl, rfl⟩ := e0
  have k1 := h1
  have L1 := light_of hsz (j := 1) (t := 3) (d := d1) rfl rfl
  have lt1 : ∀ x ∈ p1, x.block < W.heap.size := by obtain ⟨m, hm⟩ := k1; exact DataW.trod_lt m _ _ _ hm
  obtain ⟨x1, rfl, rfl, rfl, w1⟩ := open_int Try.underlying3 (hval 1 3 v1 rfl rfl) h1
  have k2 := h2
  have L2 := light_of hsz (j := 2) (t := 3) (d := d2) rfl rfl
  have lt2 : ∀ x ∈ p2, x.block < W.heap.size := by obtain ⟨m, hm⟩ := k2; exact DataW.trod_lt m _ _ _ hm
  obtain ⟨x2, rfl, rfl, rfl, w2⟩ := open_int Try.underlying3 (hval 2 3 v2 rfl rfl) h2
  clear hA0 hval0
  refine (walk x0 x1 x2 W t0 b0 o0 w1 w2).mono fun e W' ⟨he, hg⟩ => ?_
  subst he
  exact ⟨_, rfl, _, _, _, [], _, [], hW', trodAll_mk1 (shut_bool Try.underlying4 _), (trodAll_cons_mk (Below.trod laidOut (by kernel_rfl) (of_decide_eq_true (by kernel_rfl)) k0 hg lt0) (trodAll_cons_mk (Below.trod laidOut (by kernel_rfl) (of_decide_eq_true (by kernel_rfl)) k1 hg lt1) (trodAll_cons_mk (Below.trod laidOut (by kernel_rfl) (of_decide_eq_true (by kernel_rfl)) k2 hg lt2) trodAll_mk0))), rfl, hg.frame _, fun h => by cases h⟩

theorem over : Rows.evenQuotaRow.holds Try.pinned (OpenSpec.ofChange Rows.evenQuotaSpec) :=
  OpenClaim.holds_of_wide 6 Try.f6 rfl rfl rfl rfl rfl rfl rfl ⟨rfl, rfl, rfl, rfl, rfl⟩ rfl rfl rfl rfl rfl (by kernel_rfl) Try.func6 (by kernel_rfl)
    (of_decide_eq_true (by kernel_rfl)) (by unfold Func.isWrapper; first | (rw [if_pos (by decide +kernel)]; kernel_rfl) | (rw [if_neg (by decide +kernel)]; exact ⟨rfl, rfl⟩))
    (fun os started H enc _ => lifted os started H enc)

/-- ████ THE STATEMENT ████ -/
theorem proved : Rows.EvenQuotaSaid :=
  over
#print axioms proved
end Go.Proofs.Yteddoccgbebbeaa.evenQuota
