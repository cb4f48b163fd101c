/-
  'Rows.EstWiderSaid' is proved: the spread grows with the levels, is 0 at level 0, and scales with the square of the values. No condition.
-/
import Derived.Test.YtfgcmlgdgmcffaaRows
import Derived.Test.YtfgcmlgdgmcffaaShapes
import Derived.Test.YtfgcmlgdgmcffaaEstSpread
import Derived.Test.YtfgcmlgdgmcffaaEstLits
import Derived.Test.YtfgcmlgdgmcffaaWideMath
import Derived.Test.YtfgcmlgdgmcffaaWorth
import Derived.Deep.DeepCutAuto
import Derived.WalkKit
import Derived.ProofKit
import Derived.OpenShut
import Derived.ShutString
import Derived.ChangeOld
import Derived.Below
namespace Go.Proofs.Ytfgcmlgdgmcffaa.estWider
open Go.ChangeShapes Go.WideShapes Go.ChangeAt Go.RowKit
open Go.ChangeMaps (open_string shut_string)
set_option linter.unusedVariables false

theorem own : ownKnob Try.prog.godebug = none := by kernel_rfl
theorem laidOut : laidOutB Try.prog = true := by kernel_rfl

open Est Span
theorem lit_spread : spreadR [-3] [2] = 27 ∧ spreadE [-3] [2] = 0 := by decide +kernel
theorem lits2 (w : World) (n : Nat) (a b : List Int) (ca cb : Array Value) (ha : ca.toList = (a.map iC).flatten) (hb : cb.toList = (b.map iC).flatten) (la : a.length = n) (lb : b.length = n) (hn : n ≤ 40) :
    Tab ((w.alloc (.cells ca 3)).alloc (.cells cb 3)) (some ⟨w.heap.size, 0, none⟩) n n 1 (a.map iC) ∧
    Tab ((w.alloc (.cells ca 3)).alloc (.cells cb 3)) (some ⟨w.heap.size + 1, 0, none⟩) n n 1 (b.map iC) ∧
    Below w.heap.size w ((w.alloc (.cells ca 3)).alloc (.cells cb 3)) := by
  have hm : n ≤ maxLen := by unfold maxLen; omega
  refine ⟨?_, ?_, ?_⟩
  · exact (tab_lit w 3 1 n (a.map iC) ca ha (by rw [List.length_map]; exact la) (rows_of iC_len _) hm _ rfl).below ((Below.refl _ _).alloc (Nat.le_refl _) _)
  · exact tab_lit (w.alloc (.cells ca 3)) 3 1 n (b.map iC) cb hb (by rw [List.length_map]; exact lb) (rows_of iC_len _) hm _ (by simp)
  · exact ((Below.refl _ _).alloc (Nat.le_refl _) _).alloc (by simp) _
theorem zeros_listTo : ∀ n : Nat, List.replicate n (0 : Int) = listTo (fun _ => 0) n
  | 0 => rfl
  | n + 1 => by rw [List.replicate_succ', zeros_listTo n, listTo_succ]
theorem mul_range {x t : Int} (h0 : -1000 ≤ x) (h1 : x ≤ 1000) (t0 : 0 ≤ t) (t1 : t < 20) : -20000 ≤ x * t ∧ x * t ≤ 20000 := by
  have := mul_bd (x := x) (p := t) (B := 1000) (C := 20) h0 h1 t0 (by omega) (by decide)
  omega
theorem mul_twice {x t : Int} (h0 : 0 ≤ x) (h1 : x ≤ 10000000000000) (t0 : 0 ≤ t) (t1 : t < 20) : 0 ≤ x * t ∧ x * t ≤ 200000000000000 ∧ 0 ≤ x * t * t ∧ x * t * t ≤ 4000000000000000 := by
  have a1 : x * t ≤ 10000000000000 * t := Int.mul_le_mul_of_nonneg_right h1 t0
  have a2 := Int.mul_nonneg h0 t0
  generalize x * t = y at *
  have a3 : y * t ≤ 200000000000000 * t := Int.mul_le_mul_of_nonneg_right (by omega) t0
  have a4 := Int.mul_nonneg a2 t0
  omega
theorem up_le {f : Nat → Int} {j : Nat} {y : Int} (h : f j = y) (i : Nat) : f i ≤ if i = j then y + 1 else f i := by
  split
  · rename_i e; subst e; omega
  · omega

set_option maxRecDepth 100000 in
set_option maxHeartbeats 2000000 in
theorem walk (x0 : Sl Int) (x1 : Sl Int) (x2 : Int) (x3 : Int) (w : World) (t0 : Tab w x0.a x0.len x0.cap 1 (x0.l.map iC)) (b0 : x0.len * 8 ≤ 140737488351232) (o0 : ∀ z ∈ x0.l, wfI z) (t1 : Tab w x1.a x1.len x1.cap 1 (x1.l.map iC)) (b1 : x1.len * 8 ≤ 140737488351232) (o1 : ∀ z ∈ x1.l, wfI z) (w2 : (Lit.int .i64 x2).wf = true) (w3 : (Lit.int .i64 x3).wf = true) :
    Calls Try.prog 11 #[.slice x0.a x0.len x0.cap, .slice x1.a x1.len x1.cap, .int .i64 x2, .int .i64 x3] w fun e w' => e = .returned (.bool true) ∧ Below w.heap.size w w' := by
  obtain ⟨a, len, cap, L⟩ := x0
  obtain ⟨a2, len2, cap2, Q⟩ := x1
  obtain ⟨i0, hi, hz0, hz1, hz2⟩ := info_parts info_int
  have HI := Lib.hid (And.intro hi (And.intro hz0 (And.intro hz1 hz2)))
  obtain ⟨l1, l2, hb0⟩ := lits2 w 1 [-3] [2] #[.int .i64 (-3)] #[.int .i64 2] rfl rfl rfl rfl (by decide)
  have C0 := spread_any _ _ 1 1 1 1 [-3] [2] _ l1 l2
  rw [lit_spread.1, lit_spread.2] at C0
  have C0 := Lib.hid C0
  have HB0 := Lib.hid hb0
  have CW := Lib.hid (fun W (hb : Below w.heap.size w W) => worth_any a a2 len cap len2 cap2 L Q 20 9 W (t0.below hb) (t1.below hb) (fun z hz => o0 z hz) (fun z hz => o1 z hz) (by decide) (by decide) (by decide))
  have HW3 := Lib.hid (fun W => within_int x3 20 W (wf_i64 w3) (by decide) (by decide))
  have hT := withI_bd x3 20 (by decide)
  obtain ⟨n, hn⟩ : ∃ n, min len 20 = n := ⟨_, rfl⟩
  rw [hn] at CW
  have hn20 : n ≤ 20 := by omega
  have HX2 := Lib.hid (wf_i64 w2)
  clear t0 o0 t1 o1 l1 l2 hb0 hn hi hz0 hz1 hz2 w2 w3
  generalize withI x3 20 = T at *
  obtain ⟨T0, T1⟩ := hT
  go_enter Try.func11, Try.ntmps11
  go_wp2_with fail
  refine C0.out.mono ?_
  rintro e v1 ⟨rfl, hv1⟩
  rw [hv1] at HB0
  clear hv1 C0
  go_wp2_with fail
  refine (CW.out _ HB0.out).mono ?_
  rintro e v2 ⟨p, q, rfl, hM, hb2⟩
  have HB2 := Lib.hid (below_on HB0.out hb2)
  obtain ⟨ap, cp, rfl, hTp⟩ := (hM.at (v := p) (L := listTo (worthAt L) n) (by simp)).tab
  obtain ⟨aq, cq, rfl, hTq⟩ := (hM.at (v := q) (L := listTo (levelAt 9 Q) n) (by simp)).tab
  rw [List.length_map, listTo_len] at hTp hTq
  rw [List.length_map, List.length_map, listTo_len, listTo_len]
  have HTP := Lib.hid hTp
  have HTQ := Lib.hid hTq
  clear hb2 hM hTp hTq CW HB0
  go_wp2_with fail
  refine (HW3.out _).mono ?_
  rintro e v3 ⟨rfl, hv3⟩
  rw [← hv3]
  clear hv3 HW3
  by_cases hn0 : n = 0
  · subst hn0
    go_wp2
    go_ret
    exact ⟨rfl, HB2.out⟩
  have tn : ((n : Int) == 0) = false := by rw [beq_eq_false_iff_ne]; omega
  have hn1 : 1 ≤ n := by omega
  clear hn0
  have HC := Lib.hid (clone_ints aq n cq (listTo (levelAt 9 Q) n) v2 HTQ.out (by omega))
  have HWI := Lib.hid (fun W => within_int x2 (n : Int) W HX2.out (by omega) (by omega))
  have hj := withI_bd x2 (n : Int) (by omega)
  obtain ⟨j, hjj⟩ := Int.eq_ofNat_of_zero_le hj.1
  rw [hjj] at HWI hj
  have hjn : j < n := by have := hj.2; omega
  clear hj hjj
  go_wp2_with fail
  refine HC.out.mono ?_
  rintro e v4 ⟨c, rfl, hO4, hb4⟩
  obtain ⟨g, cg, hc⟩ := own_spot hO4 (by rw [listTo_len]; exact hn1)
  rw [listTo_len] at hc
  subst hc
  have bj := levelAt_bd (most := 9) (by omega) Q j
  obtain ⟨c1, f1, hg1, hg2⟩ := hO4.at1 (map_get (listTo_get (f := levelAt 9 Q) hjn))
  have HO5 := Lib.hid (own_set hO4 (listTo_get (f := levelAt 9 Q) hjn) (levelAt 9 Q j + 1))
  rw [listTo_set] at HO5
  have HB4 := Lib.hid hb4
  have HG := Lib.hid (And.intro hg1 hg2)
  clear hO4 hb4 hg1 hg2 HC
  obtain ⟨y, hy⟩ : ∃ y, levelAt 9 Q j = y := ⟨_, rfl⟩
  rw [hy] at c1 bj HO5
  obtain ⟨bj1, bj2⟩ := bj
  have HY := Lib.hid hy
  clear hy
  go_wp2_with fail
  refine (HWI.out _).mono ?_
  rintro e w5 ⟨rfl, hw5⟩
  rw [← hw5]
  clear hw5 HWI
  go_upto_region 10 with fail
  obtain ⟨v5, hv5⟩ : ∃ v5, v4.setCell ⟨g, j, none⟩ (.int .i64 (y + 1)) = v5 := ⟨_, rfl⟩
  have HB5 := Lib.hid (HB4.out.setCell (p := ⟨g, j, none⟩) HG.out.1 (.int .i64 (y + 1)))
  rw [hv5] at HO5 HB5 ⊢
  clear HG c1 f1 hv5 HB4 v4
  go_wp2_with fail
  go_loopg [14, 61] n (fun g va i wr => ∃ k : Nat, k + g = n ∧ i = .int .i64 k ∧ Hid (Many wr v5.heap.size 3 [(va, listTo (fun i => worthAt L i * T) k)]) ∧ Hid (Below v5.heap.size v5 wr))
  case atStart => exact ⟨0, by omega, rfl, Lib.hid ⟨by intro p hp; simp at hp; rcases hp with rfl; exact Own.nil _ _ _ _, by simp⟩, Lib.hid (Below.refl _ _)⟩
  case round =>
    obtain ⟨k, hk0, rfl, HV, HB⟩ := hrel
    have HJ := Lib.hid hk0
    have hk : k ≤ n := by omega
    clear hk0
    by_cases hlt : k < n
    · have HV1 : Hid (k ≤ 40) := Lib.hid (by omega)
      obtain ⟨b0, o0, ha0, hbs0, c0⟩ := HTP.out.one (below_on HB5.out HB.out) (map_get (listTo_get (f := worthAt L) hlt))
      subst ha0
      have bx := worthAt_bd L k
      have bz := mul_range bx.1 bx.2 T0 T1
      have HN1 : Hid (listTo (fun i => worthAt L i * T) (k + 1) = listTo (fun i => worthAt L i * T) k ++ [worthAt L k * T]) := Lib.hid (listTo_succ _ _)
      generalize worthAt L k = x at *
      have q1 : wrap64 (x * T) = x * T := wrap_id (by omega) (by omega)
      obtain ⟨z, hz⟩ : ∃ z, x * T = z := ⟨_, rfl⟩
      rw [hz] at HN1 bz q1
      obtain ⟨bz1, bz2⟩ := bz
      have q2 : wrap64 (x * T) = z := by rw [hz]; exact q1
      clear q1 hz bx
      go_wp2_with (at_builtin; refine wpList_append_rows_at _ rfl _ _ 22 rfl v5.heap.size 3 _ 1 8 Try.underlying22 info_int rfl (by decide) _ ((listTo (fun i => worthAt L i * T) k).map iC) rfl ((HV.out.at (v := u14) (L := listTo (fun i => worthAt L i * T) k) (by simp)).alloc _) ⟨wr.heap.size, 0, none⟩ 1 1 [iC (z)] rfl rfl (by simp [iC]) (one_row wr (iC (z)) 3 _ rfl) (by simp [iC, Value.oneCell']) (by have := HV1.out; simp only [List.length_map, listTo_len]; omega) (by decide) (Nat.le_trans HB.out.size (by simp)) ?_; intro v6 w6 hO6 hg6 hat6; have HM6 := Lib.hid (Many.grow (A := []) (B := []) (L' := listTo (fun i => worthAt L i * T) (k + 1)) (HV.out.alloc (.cells (iC (z)).toArray 3)) (by rw [HN1.out, List.map_append]; exact hO6) hg6 hat6); have HB6 := Lib.hid (((HV.out.at (v := u14) (L := listTo (fun i => worthAt L i * T) k) (by simp)).alloc (.cells (iC (z)).toArray 3)).under (HB.out.alloc HB.out.size _) (Nat.le_refl _) (Nat.le_trans HB.out.size (by simp)) hg6); clear hO6 hg6 hat6)
      go_roundg (n - (k + 1))
      case measure => have := HJ.out; omega
      case rel => exact ⟨k + 1, by omega, by go_num, HM6, HB6⟩
    · obtain rfl : k = n := by omega
      obtain ⟨aw, cw, e9, hT9⟩ := (HV.out.at (v := u14) (L := listTo (fun i => worthAt L i * T) k) (by simp)).tab
      rw [List.length_map, listTo_len] at hT9 e9
      subst e9
      have hb5 := below_on HB5.out HB.out
      have S1 := spread_listTo (f := worthAt L) (g := levelAt 9 Q) (n := k) (by omega) (fun i _ => by have := worthAt_bd L i; omega) (fun i _ => by have := levelAt_bd (most := 9) (by omega) Q i; omega)
      have S2 := spread_listTo (f := worthAt L) (g := fun i => if i = j then y + 1 else levelAt 9 Q i) (n := k) (by omega) (fun i _ => by have := worthAt_bd L i; omega) (fun i _ => by have := levelAt_bd (most := 9) (by omega) Q i; split <;> omega)
      have S3 := spread_listTo (f := fun i => worthAt L i * T) (g := levelAt 9 Q) (n := k) (by omega) (fun i _ => mul_range (worthAt_bd L i).1 (worthAt_bd L i).2 T0 T1) (fun i _ => by have := levelAt_bd (most := 9) (by omega) Q i; omega)
      have S4 := spread_listTo (f := worthAt L) (g := fun _ => 0) (n := k) (by omega) (fun i _ => by have := worthAt_bd L i; omega) (fun i _ => by omega)
      have hAB := sumTo_le (f := fun i => wide (worthAt L i) (levelAt 9 Q i)) (g := fun i => wide (worthAt L i) (if i = j then y + 1 else levelAt 9 Q i)) (n := k) (fun i _ => wide_mono (up_le HY.out i))
      have hC : sumTo (fun i => wide (worthAt L i * T) (levelAt 9 Q i)) k = sumTo (fun i => wide (worthAt L i) (levelAt 9 Q i)) k * T * T := by
        rw [sumTo_congr (fun i _ => wide_scale (worthAt L i) T (levelAt 9 Q i)), sumTo_mul (fun i => wide (worthAt L i) (levelAt 9 Q i) * T), sumTo_mul]
      have hD : sumTo (fun i => wide (worthAt L i) 0) k = 0 := by rw [sumTo_congr (fun i _ => wide_zero (worthAt L i)), sumTo_zero]
      have C5 := spread_any ap aq k cp k cq _ _ wr (HTP.out.below hb5) (HTQ.out.below hb5)
      have C6 := spread_any ap (some ⟨g, 0, none⟩) k cp k cg _ _ wr (HTP.out.below hb5) (HO5.out.tab_of.below HB.out)
      have C7 := spread_any aw aq k cw k cq _ _ wr hT9 (HTQ.out.below hb5)
      have C8 := fun (W : World) (az : Option Addr) (cz : Nat) (hW : Below wr.heap.size wr W) (hz : Tab W az k cz 1 ((listTo (fun _ => 0) k).map iC)) => spread_any ap az k cp k cz _ _ W ((HTP.out.below hb5).below hW) hz
      rw [S1.1, S1.2.1] at C5
      rw [S2.1, S2.2.1] at C6
      rw [S3.1, S3.2.1, hC] at C7
      rw [S4.1, S4.2.1, hD] at C8
      have hA0 := S1.2.2.1
      have hA1 := S1.2.2.2
      have hB1 := S2.2.2.2
      have C5 := Lib.hid C5
      have C6 := Lib.hid C6
      have C7 := Lib.hid C7
      have C8 := Lib.hid C8
      have HBZ := Lib.hid (below_on HB2.out hb5)
      clear S1 S2 S3 S4 hC hD hT9 HV HTP HTQ HO5 HB HB5 HB2 hb5
      generalize sumTo (fun i => wide (worthAt L i) (levelAt 9 Q i)) k = A at *
      generalize sumTo (fun i => wide (worthAt L i) (if i = j then y + 1 else levelAt 9 Q i)) k = B at *
      have hA2 : A ≤ 10000000000000 := by omega
      obtain ⟨m1, m2, m3, m4⟩ := mul_twice hA0 hA2 T0 T1
      have q1 : wrap64 (A * T) = A * T := wrap_id (by omega) (by omega)
      have q2 : wrap64 (A * T * T) = A * T * T := wrap_id (by omega) (by omega)
      obtain ⟨P1, hP1⟩ : ∃ P1, A * T = P1 := ⟨_, rfl⟩
      rw [hP1] at q2 C7 m3 m4
      obtain ⟨P2, hP2⟩ : ∃ P2, P1 * T = P2 := ⟨_, rfl⟩
      rw [hP2] at C7 m3 m4
      have q1 : wrap64 (A * T) = P1 := by rw [q1, hP1]
      have q2 : wrap64 (P1 * T) = P2 := by rw [q2, hP2]
      have q3 : wrap64 (A * T * T) = P2 := by rw [hP1]; exact q2
      have tP : (P2 == P2) = true := by simp
      clear hP1 hP2 m1 m2 hA1 hB1
      go_wp2_with fail
      refine C5.out.mono ?_
      rintro e w6 ⟨rfl, hw6⟩
      rw [← hw6]
      clear hw6 C5
      go_wp2_with fail
      refine C6.out.mono ?_
      rintro e w6 ⟨rfl, hw6⟩
      rw [← hw6]
      clear hw6 C6
      go_wp2_with fail
      refine C7.out.mono ?_
      rintro e w6 ⟨rfl, hw6⟩
      rw [← hw6]
      clear hw6 C7
      go_wp2_with (at_make; refine wpList_make_full _ rfl _ _ 22 rfl wr.heap.size 3 i0 (.int .i64 0) 1 Try.underlying22 HI.out.1 HI.out.2.1 HI.out.2.2.1 _ _ _ _ k rfl rfl rfl rfl (by rw [HI.out.2.2.2]; omega) (by unfold maxLen; omega) (Nat.le_refl _) ?_; intro w6 hO6 hg6)
      have hO7 : Own w6 wr.heap.size 3 1 (.slice (some ⟨wr.heap.size, 0, none⟩) k k) ((listTo (fun _ => 0) k).map iC) := by
        rw [← zeros_listTo]
        exact Own.full hO6 (made_ints k)
      have hb6 : Below wr.heap.size wr w6 := (Below.refl _ _).grown hg6 (Nat.le_refl _) (fun j hj => by cases hj)
      have CZ := Lib.hid (C8.out w6 _ k hb6 hO7.tab_of)
      have HB6 := Lib.hid hb6
      clear hO6 hO7 hg6 hb6 C8
      refine CZ.out.mono ?_
      rintro e w7 ⟨rfl, hw7⟩
      rw [← hw7]
      clear hw7 CZ
      go_wp2
      go_ret
      exact ⟨rfl, below_on HBZ.out HB6.out⟩

set_option maxRecDepth 100000 in
theorem lifted (os : Os) (started : os.Started) (H : Type) (enc : TypeId × Value → H) :
    ReturnsInHanded {} Try.checked os 11 .any (Rows.estWiderSpec.pre6 enc Try.prog Try.f11 Rows.estWiderRow.domain false) (Rows.estWiderSpec.post enc Try.prog Try.f11 false true false false) := by
  refine returnsInHanded_of_change_sized (C := Try.checked) own started (by kernel_rfl) Try.func11
    (ChangeSpec.witness6 (enc := enc) (C := Try.checked) false ⟨#[], #[.slice none 0 0, .slice none 0 0, .int .i64 0, .int .i64 0], []⟩ 8 (by kernel_rfl) (by kernel_rfl) (by kernel_rfl) (by kernel_rfl)) ?_
  intro W base args ds gs before hval0 hW hcnd hsz0 _
  have hval : ∀ (j : Nat) t v, Try.f11.params[j]? = some t → args[j]? = some v → Value.okWide Try.prog W .any base t v := hval0
  have hW' := hW
  obtain ⟨p, q, hA0, hV, rfl, hfz, hnd⟩ := hW
  have hA : DataW.TrodAll enc Try.prog W 0 (fun _ => true) true Try.f11.params.toList args.toList ds p := hA0
  have hsz : (DataW.weightsEach Try.prog (Try.f11.params.toList ++ Rows.estWiderSpec.plain.varTypes Try.prog) (ds ++ gs)).all (· ≤ reachBytes) = true := hsz0
  rw [Try.params11] at hA hval hsz
  obtain ⟨v0, vs0, d0, ds0, p0, q0, hargs, rfl, rfl, h0, r0⟩ := trodAll_cons hA
  obtain ⟨v1, vs1, d1, ds1, p1, q1, rfl, rfl, rfl, h1, r1⟩ := trodAll_cons r0
  obtain ⟨v2, vs2, d2, ds2, p2, q2, rfl, rfl, rfl, h2, r2⟩ := trodAll_cons r1
  obtain ⟨v3, vs3, d3, ds3, p3, q3, rfl, rfl, rfl, h3, r3⟩ := trodAll_cons r2
  obtain ⟨rfl, rfl, rfl⟩ := trodAll_nil r3
  obtain rfl : args = #[v0, v1, v2, v3] := by cases args; simp_all
  obtain ⟨rfl, rfl⟩ := trodVars_none hV
  have k0 := h0
  have L0 := light_of hsz (j := 0) (t := 22) (d := d0) rfl rfl
  have lt0 : ∀ x ∈ p0, x.block < W.heap.size := by obtain ⟨m, hm⟩ := k0; exact DataW.trod_lt m _ _ _ hm
  obtain ⟨a0, len0, cap0, rfl⟩ := okWide_slice Try.underlying22 (hval 0 22 v0 rfl rfl)
  obtain ⟨n0, f0⟩ := trod_slice_of Try.underlying22 h0
  have F0 := And.intro f0 L0
  obtain ⟨x0, e0, t0, b0, o0⟩ := el_slice (w := W) (k := 1) iC wfI (by decide) Try.underlying22 (by kernel_rfl) (el_int Try.underlying3) (B := 8) (by kernel_rfl) _ _ _ F0.1 F0.2
  simp only [slC, List.cons.injEq, Value.slice.injEq, and_true] at e0
  obtain ⟨rfl, rfl, rfl⟩ := e0
  have k1 := h1
  have L1 := light_of hsz (j := 1) (t := 22) (d := d1) rfl rfl
  have lt1 : ∀ x ∈ p1, x.block < W.heap.size := by obtain ⟨m, hm⟩ := k1; exact DataW.trod_lt m _ _ _ hm
  obtain ⟨a1, len1, cap1, rfl⟩ := okWide_slice Try.underlying22 (hval 1 22 v1 rfl rfl)
  obtain ⟨n1, f1⟩ := trod_slice_of Try.underlying22 h1
  have F1 := And.intro f1 L1
  obtain ⟨x1, e1, t1, b1, o1⟩ := el_slice (w := W) (k := 1) iC wfI (by decide) Try.underlying22 (by kernel_rfl) (el_int Try.underlying3) (B := 8) (by kernel_rfl) _ _ _ F1.1 F1.2
  simp only [slC, List.cons.injEq, Value.slice.injEq, and_true] at e1
  obtain ⟨rfl, rfl, rfl⟩ := e1
  have k2 := h2
  have L2 := light_of hsz (j := 2) (t := 3) (d := d2) rfl rfl
  have lt2 : ∀ x ∈ p2, x.block < W.heap.size := by obtain ⟨m, hm⟩ := k2; exact DataW.trod_lt m _ _ _ hm
  obtain ⟨x2, rfl, rfl, rfl, w2⟩ := open_int Try.underlying3 (hval 2 3 v2 rfl rfl) h2
  have k3 := h3
  have L3 := light_of hsz (j := 3) (t := 3) (d := d3) rfl rfl
  have lt3 : ∀ x ∈ p3, x.block < W.heap.size := by obtain ⟨m, hm⟩ := k3; exact DataW.trod_lt m _ _ _ hm
  obtain ⟨x3, rfl, rfl, rfl, w3⟩ := open_int Try.underlying3 (hval 3 3 v3 rfl rfl) h3
  clear hA0 hval0
  refine (walk x0 x1 x2 x3 W t0 b0 o0 t1 b1 o1 w2 w3).mono fun e W' ⟨he, hg⟩ => ?_
  subst he
  exact ⟨_, rfl, _, _, _, [], _, [], hW', trodAll_mk1 (shut_bool Try.underlying4 _), (trodAll_cons_mk (Below.trod laidOut (by kernel_rfl) (of_decide_eq_true (by kernel_rfl)) k0 hg lt0) (trodAll_cons_mk (Below.trod laidOut (by kernel_rfl) (of_decide_eq_true (by kernel_rfl)) k1 hg lt1) (trodAll_cons_mk (Below.trod laidOut (by kernel_rfl) (of_decide_eq_true (by kernel_rfl)) k2 hg lt2) (trodAll_cons_mk (Below.trod laidOut (by kernel_rfl) (of_decide_eq_true (by kernel_rfl)) k3 hg lt3) trodAll_mk0)))), rfl, hg.frame _, fun h => by cases h⟩

theorem over : Rows.estWiderRow.holds Try.pinned (OpenSpec.ofChange Rows.estWiderSpec) :=
  OpenClaim.holds_of_wide 11 Try.f11 rfl rfl rfl rfl rfl rfl rfl ⟨rfl, rfl, rfl, rfl, rfl⟩ rfl rfl rfl rfl rfl (by kernel_rfl) Try.func11 (by kernel_rfl)
    (of_decide_eq_true (by kernel_rfl)) (by unfold Func.isWrapper; first | (rw [if_pos (by decide +kernel)]; kernel_rfl) | (rw [if_neg (by decide +kernel)]; exact ⟨rfl, rfl⟩))
    (fun os started H enc _ => lifted os started H enc)

/-- ████ THE STATEMENT ████ -/
theorem proved : Rows.EstWiderSaid :=
  over
#print axioms proved
end Go.Proofs.Ytfgcmlgdgmcffaa.estWider
