/-
  'Rows.EstAddsSaid' is proved: of two lists with the same levels and draws the estimate of both together is the sum of the two estimates. No condition.
-/
import Derived.Test.YtfgcmlgdgmcffaaRows
import Derived.Test.YtfgcmlgdgmcffaaShapes
import Derived.Test.YtfgcmlgdgmcffaaEstSum
import Derived.Test.YtfgcmlgdgmcffaaEstLits
import Derived.Test.YtfgcmlgdgmcffaaWorth
import Derived.Test.YtfgcmlgdgmcffaaDraw
import Derived.Deep.DeepCutAuto
import Derived.WalkKit
import Derived.ProofKit
import Derived.OpenShut
import Derived.ShutString
import Derived.ChangeOld
import Derived.Below
namespace Go.Proofs.Ytfgcmlgdgmcffaa.estAdds
open Go.ChangeShapes Go.WideShapes Go.ChangeAt Go.RowKit
open Go.ChangeMaps (open_string shut_string)
set_option linter.unusedVariables false

theorem own : ownKnob Try.prog.godebug = none := by kernel_rfl
theorem laidOut : laidOutB Try.prog = true := by kernel_rfl

open Est Span
theorem lit_sum : sumR [5, 7] [0, 0] [0, 0] = 12 ∧ sumE [5, 7] [0, 0] [0, 0] = 0 := by decide +kernel

set_option maxRecDepth 100000 in
set_option maxHeartbeats 2000000 in
theorem walk (x0 : Sl Int) (x1 : Sl Int) (x2 : Sl Int) (x3 : Sl Int) (w : World) (t0 : Tab w x0.a x0.len x0.cap 1 (x0.l.map iC)) (b0 : x0.len * 8 ≤ 140737488351232) (o0 : ∀ z ∈ x0.l, wfI z) (t1 : Tab w x1.a x1.len x1.cap 1 (x1.l.map iC)) (b1 : x1.len * 8 ≤ 140737488351232) (o1 : ∀ z ∈ x1.l, wfI z) (t2 : Tab w x2.a x2.len x2.cap 1 (x2.l.map iC)) (b2 : x2.len * 8 ≤ 140737488351232) (o2 : ∀ z ∈ x2.l, wfI z) (t3 : Tab w x3.a x3.len x3.cap 1 (x3.l.map iC)) (b3 : x3.len * 8 ≤ 140737488351232) (o3 : ∀ z ∈ x3.l, wfI z) :
    Calls Try.prog 7 #[.slice x0.a x0.len x0.cap, .slice x1.a x1.len x1.cap, .slice x2.a x2.len x2.cap, .slice x3.a x3.len x3.cap] w fun e w' => e = .returned (.bool true) ∧ Below w.heap.size w w' := by
  obtain ⟨a, len, cap, L⟩ := x0
  obtain ⟨a1, len1, cap1, M⟩ := x1
  obtain ⟨a2, len2, cap2, Q⟩ := x2
  obtain ⟨a3, len3, cap3, D⟩ := x3
  have hm1 := t1.hmax
  have hle1 := t1.hle
  have hm3 := t3.hmax
  have hle3 := t3.hle
  unfold maxLen at hm1 hm3
  have hl1 := t1.hlen
  rw [List.length_map] at hl1
  have HL1 : Hid (M.length = len1) := Lib.hid hl1
  have hl3 := t3.hlen
  rw [List.length_map] at hl3
  have HL3 : Hid (D.length = len3) := Lib.hid hl3
  obtain ⟨l1, l2, l3, hb0⟩ := lits3 w 2 [5, 7] [0, 0] [0, 0] #[.int .i64 5, .int .i64 7] #[.int .i64 0, .int .i64 0] #[.int .i64 0, .int .i64 0] rfl rfl rfl rfl rfl rfl (by decide)
  have C0 := sum_any _ _ _ 2 2 2 2 2 2 [5, 7] [0, 0] [0, 0] _ l1 l2 l3
  rw [lit_sum.1, lit_sum.2] at C0
  have C0 := Lib.hid C0
  have HB0 := Lib.hid hb0
  have CW := Lib.hid (fun W (hb : Below w.heap.size w W) => worth_any a a2 len cap len2 cap2 L Q 40 20 W (t0.below hb) (t2.below hb) (fun z hz => o0 z hz) (fun z hz => o2 z hz) (by decide) (by decide) (by decide))
  have HT1 := Lib.hid t1
  have HO1 := Lib.hid o1
  have HT3 := Lib.hid t3
  have HO3 := Lib.hid o3
  obtain ⟨n, hn⟩ : ∃ n, min len 40 = n := ⟨_, rfl⟩
  rw [hn] at CW
  have hn40 : n ≤ 40 := by omega
  clear t0 o0 t1 o1 t2 o2 t3 o3 hl1 hl3 l1 l2 l3 hb0 hn
  go_enter Try.func7, Try.ntmps7
  go_wp2_with fail
  refine C0.out.mono ?_
  rintro e v1 ⟨rfl, hb1⟩
  have HB1 := Lib.hid (below_on HB0.out hb1)
  clear hb1 C0 HB0
  go_wp2_with fail
  refine (CW.out _ HB1.out).mono ?_
  rintro e v2 ⟨p, q, rfl, hM, hb2⟩
  have HB2 := Lib.hid (below_on HB1.out hb2)
  obtain ⟨ap, cp, rfl, hTp⟩ := (hM.at (v := p) (L := listTo (worthAt L) n) (by simp)).tab
  obtain ⟨aq, cq, rfl, hTq⟩ := (hM.at (v := q) (L := listTo (levelAt 20 Q) n) (by simp)).tab
  rw [List.length_map, listTo_len] at hTp hTq
  rw [List.length_map, List.length_map, listTo_len, listTo_len]
  have HTP := Lib.hid hTp
  have HTQ := Lib.hid hTq
  clear hb2 hM hTp hTq CW HB1
  go_wp2_with fail
  go_loopg [13, 14, 15, 47] n (fun g va vb vc i wr => ∃ k : Nat, k + g = n ∧ i = .int .i64 k ∧ Hid (Many wr v2.heap.size 3 [(va, listTo (levelAt 999 M) k), (vb, listTo (fun i => worthAt L i + levelAt 999 M i) k), (vc, listTo (drawAt D) k)]) ∧ Hid (Below v2.heap.size v2 wr))
  case atStart => exact ⟨0, by omega, rfl, Lib.hid ⟨by intro p hp; simp at hp; rcases hp with rfl | rfl | rfl <;> exact Own.nil _ _ _ _, by simp [Apart, apart_nil, Value.ownBlock]⟩, Lib.hid (Below.refl _ _)⟩
  case round =>
    obtain ⟨k, hk0, rfl, HV, HB⟩ := hrel
    have HJ := Lib.hid hk0
    have hk : k ≤ n := by omega
    clear hk0
    by_cases hlt : k < n
    · have HV1 : Hid (k ≤ 40) := Lib.hid (by omega)
      obtain ⟨b0, o0, ha0, hbs0, c0⟩ := HTP.out.one HB.out (map_get (listTo_get (f := worthAt L) hlt))
      subst ha0
      have bx := worthAt_bd L k
      have bx1 := bx.1
      have bx2 := bx.2
      have HX : Hid (worthAt L k = worthAt L k) := Lib.hid rfl
      obtain ⟨x, hx⟩ : ∃ x, worthAt L k = x := ⟨_, rfl⟩
      rw [hx] at c0 bx1 bx2
      have HX := Lib.hid hx
      clear bx hx
      go_upto_if 55 with fail
      go_cut [18] (fun s wx => s = .int .i64 (levelAt 999 M k) ∧ wx = wr)
      case first =>
        by_cases hlt1 : k < len1
        · obtain ⟨z, hz⟩ : ∃ z, M[k]? = some z := ⟨_, List.getElem?_eq_getElem (by rw [HL1.out]; omega)⟩
          obtain ⟨b1, o1, ha1, hbs1, c1⟩ := HT1.out.one (below_on HB2.out HB.out) (map_get hz)
          have hwz := wf_i64 (HO1.out z (List.mem_of_getElem? hz))
          have HW2 := Lib.hid (fun w => within_int z 1000 w hwz (by omega) (by omega))
          have HE : Hid (withI z 1000 = levelAt 999 M k) := Lib.hid (by rw [levelAt_some hz]; rfl)
          subst ha1
          clear hz hwz
          go_wp2_with fail
          refine (HW2.out _).mono ?_
          rintro e w5 ⟨rfl, rfl⟩
          go_wp2_with fail
          go_meet
          case rel => exact ⟨by rw [HE.out], rfl⟩
        · have hlt1' : len1 ≤ k := by omega
          have HE : Hid (levelAt 999 M k = 0) := Lib.hid (levelAt_none (by rw [HL1.out]; omega))
          clear hlt1
          go_wp2_with fail
          go_meet
          case rel => exact ⟨by rw [HE.out], rfl⟩
      case rest =>
      obtain ⟨rfl, hwc⟩ := hcut
      have hwc := hwc.symm
      subst hwc
      have by0 := levelAt_bd (most := 999) (by omega) M k
      have by1 := by0.1
      have by2 := by0.2
      obtain ⟨y, hy⟩ : ∃ y, levelAt 999 M k = y := ⟨_, rfl⟩
      rw [hy] at by1 by2 ⊢
      have HY := Lib.hid hy
      clear by0 hy
      go_upto_if 64 with fail
      go_cut [19] (fun s wx => s = .int .i64 (drawAt D k) ∧ wx = wr)
      case first =>
        by_cases hlt1 : k < len3
        · obtain ⟨z, hz⟩ : ∃ z, D[k]? = some z := ⟨_, List.getElem?_eq_getElem (by rw [HL3.out]; omega)⟩
          obtain ⟨b1, o1, ha1, hbs1, c1⟩ := HT3.out.one (below_on HB2.out HB.out) (map_get hz)
          have hwz := wf_i64 (HO3.out z (List.mem_of_getElem? hz))
          have HW2 := Lib.hid (fun w => draw_int z w hwz)
          have HE : Hid (withI z 72057594037927936 = drawAt D k) := Lib.hid (by rw [drawAt_some hz])
          subst ha1
          clear hz hwz
          go_wp2_with fail
          refine (HW2.out _).mono ?_
          rintro e w5 ⟨rfl, rfl⟩
          go_wp2_with fail
          go_meet
          case rel => exact ⟨by rw [HE.out], rfl⟩
        · have hlt1' : len3 ≤ k := by omega
          have HE : Hid (drawAt D k = 0) := Lib.hid (drawAt_none (by rw [HL3.out]; omega))
          clear hlt1
          go_wp2_with fail
          go_meet
          case rel => exact ⟨by rw [HE.out], rfl⟩
      case rest =>
      obtain ⟨rfl, hwc⟩ := hcut
      have hwc := hwc.symm
      subst hwc
      obtain ⟨d, hd⟩ : ∃ d, drawAt D k = d := ⟨_, rfl⟩
      rw [hd]
      have HN1 : Hid (listTo (levelAt 999 M) (k + 1) = listTo (levelAt 999 M) k ++ [y]) := Lib.hid (by rw [listTo_succ, HY.out])
      have HN2 : Hid (listTo (fun i => worthAt L i + levelAt 999 M i) (k + 1) = listTo (fun i => worthAt L i + levelAt 999 M i) k ++ [x + y]) := Lib.hid (by rw [listTo_succ, HY.out, HX.out])
      have HN3 : Hid (listTo (drawAt D) (k + 1) = listTo (drawAt D) k ++ [d]) := Lib.hid (by rw [listTo_succ, hd])
      clear hd
      go_wp2_with (first | (at_builtin; refine wpList_append_rows_at _ rfl _ _ 22 rfl v2.heap.size 3 _ 1 8 Try.underlying22 info_int rfl (by decide) _ ((listTo (levelAt 999 M) k).map iC) rfl ((HV.out.at (v := u13) (L := listTo (levelAt 999 M) k) (by simp)).alloc _) ⟨wr.heap.size, 0, none⟩ 1 1 [iC (y)] rfl rfl (by simp [iC]) (one_row wr (iC (y)) 3 _ rfl) (by simp [iC, Value.oneCell']) (by have := HV1.out; simp only [List.length_map, listTo_len]; omega) (by decide) (Nat.le_trans HB.out.size (by simp)) ?_; intro v6 w6 hO6 hg6 hat6; have HM6 := Lib.hid (Many.grow (A := []) (L' := listTo (levelAt 999 M) (k + 1)) (HV.out.alloc (.cells (iC (y)).toArray 3)) (by rw [HN1.out, List.map_append]; exact hO6) hg6 hat6); have HB6 := Lib.hid (((HV.out.at (v := u13) (L := listTo (levelAt 999 M) k) (by simp)).alloc (.cells (iC (y)).toArray 3)).under (HB.out.alloc HB.out.size _) (Nat.le_refl _) (Nat.le_trans HB.out.size (by simp)) hg6); clear hO6 hg6 hat6) | (at_builtin; refine wpList_append_rows_at _ rfl _ _ 22 rfl v2.heap.size 3 _ 1 8 Try.underlying22 info_int rfl (by decide) _ ((listTo (fun i => worthAt L i + levelAt 999 M i) k).map iC) rfl ((HM6.out.at (v := u14) (L := listTo (fun i => worthAt L i + levelAt 999 M i) k) (by simp)).alloc _) ⟨w6.heap.size, 0, none⟩ 1 1 [iC (x + y)] rfl rfl (by simp [iC]) (one_row w6 (iC (x + y)) 3 _ rfl) (by simp [iC, Value.oneCell']) (by have := HV1.out; simp only [List.length_map, listTo_len]; omega) (by decide) (Nat.le_trans HB6.out.size (by simp)) ?_; intro v7 w7 hO7 hg7 hat7; have HM7 := Lib.hid (Many.grow (A := [(v6, listTo (levelAt 999 M) (k + 1))]) (L' := listTo (fun i => worthAt L i + levelAt 999 M i) (k + 1)) (HM6.out.alloc (.cells (iC (x + y)).toArray 3)) (by rw [HN2.out, List.map_append]; exact hO7) hg7 hat7); have HB7 := Lib.hid (((HM6.out.at (v := u14) (L := listTo (fun i => worthAt L i + levelAt 999 M i) k) (by simp)).alloc (.cells (iC (x + y)).toArray 3)).under (HB6.out.alloc HB6.out.size _) (Nat.le_refl _) (Nat.le_trans HB6.out.size (by simp)) hg7); clear hO7 hg7 hat7) | (at_builtin; refine wpList_append_rows_at _ rfl _ _ 22 rfl v2.heap.size 3 _ 1 8 Try.underlying22 info_int rfl (by decide) _ ((listTo (drawAt D) k).map iC) rfl ((HM7.out.at (v := u15) (L := listTo (drawAt D) k) (by simp)).alloc _) ⟨w7.heap.size, 0, none⟩ 1 1 [iC (d)] rfl rfl (by simp [iC]) (one_row w7 (iC (d)) 3 _ rfl) (by simp [iC, Value.oneCell']) (by have := HV1.out; simp only [List.length_map, listTo_len]; omega) (by decide) (Nat.le_trans HB7.out.size (by simp)) ?_; intro v8 w8 hO8 hg8 hat8; have HM8 := Lib.hid (Many.grow (A := [(v6, listTo (levelAt 999 M) (k + 1)), (v7, listTo (fun i => worthAt L i + levelAt 999 M i) (k + 1))]) (B := []) (L' := listTo (drawAt D) (k + 1)) (HM7.out.alloc (.cells (iC (d)).toArray 3)) (by rw [HN3.out, List.map_append]; exact hO8) hg8 hat8); have HB8 := Lib.hid (((HM7.out.at (v := u15) (L := listTo (drawAt D) k) (by simp)).alloc (.cells (iC (d)).toArray 3)).under (HB7.out.alloc HB7.out.size _) (Nat.le_refl _) (Nat.le_trans HB7.out.size (by simp)) hg8); clear hO8 hg8 hat8))
      go_roundg (n - (k + 1))
      case measure => have := HJ.out; omega
      case rel => exact ⟨k + 1, by omega, by go_num, HM8, HB8⟩
    · obtain rfl : k = n := by omega
      obtain ⟨aw, cw, e9, hT9⟩ := (HV.out.at (v := u13) (L := listTo (levelAt 999 M) k) (by simp)).tab
      obtain ⟨ab, cb, e10, hT10⟩ := (HV.out.at (v := u14) (L := listTo (fun i => worthAt L i + levelAt 999 M i) k) (by simp)).tab
      obtain ⟨ar, cr, e11, hT11⟩ := (HV.out.at (v := u15) (L := listTo (drawAt D) k) (by simp)).tab
      rw [List.length_map, listTo_len] at hT9 hT10 hT11 e9 e10 e11
      subst e9 e10 e11
      have C5 := sum_any ap aq ar k cp k cq k cr _ _ _ wr (HTP.out.below HB.out) (HTQ.out.below HB.out) hT11
      rw [sumE_listTo hn40 (fun i _ => by have := worthAt_bd L i; omega) (fun i _ => levelAt_bd (by omega) Q i) (fun i _ => drawAt_bd D i), sumR_listTo (B := 1000) hn40 (by decide) (by decide) (fun i _ => worthAt_bd L i) (fun i _ => levelAt_bd (by omega) Q i) (fun i _ => drawAt_bd D i)] at C5
      have C6 := fun W (hW : Below wr.heap.size wr W) => sum_any aw aq ar k cw k cq k cr _ _ _ W (hT9.below hW) ((HTQ.out.below HB.out).below hW) (hT11.below hW)
      rw [sumE_listTo hn40 (fun i _ => by have := levelAt_bd (most := 999) (by omega) M i; omega) (fun i _ => levelAt_bd (by omega) Q i) (fun i _ => drawAt_bd D i), sumR_listTo (B := 1000) hn40 (by decide) (by decide) (fun i _ => by have := levelAt_bd (most := 999) (by omega) M i; omega) (fun i _ => levelAt_bd (by omega) Q i) (fun i _ => drawAt_bd D i)] at C6
      have C7 := fun W (hW : Below wr.heap.size wr W) => sum_any ab aq ar k cb k cq k cr _ _ _ W (hT10.below hW) ((HTQ.out.below HB.out).below hW) (hT11.below hW)
      rw [sumE_listTo hn40 (fun i _ => by have := levelAt_bd (most := 999) (by omega) M i; have := worthAt_bd L i; omega) (fun i _ => levelAt_bd (by omega) Q i) (fun i _ => drawAt_bd D i), sumR_listTo (B := 2000) hn40 (by decide) (by decide) (fun i _ => by have := levelAt_bd (most := 999) (by omega) M i; have := worthAt_bd L i; omega) (fun i _ => levelAt_bd (by omega) Q i) (fun i _ => drawAt_bd D i), sumTo_add _ _ _ (fun i => term_add _ _ _ _)] at C7
      have hA := sumTo_bd (f := fun i => term (worthAt L i) (levelAt 20 Q i) (drawAt D i)) (B := 1000 * 1048576) (n := k) (fun i hi => term_bd (worthAt_bd L i).1 (worthAt_bd L i).2 (by decide) (levelAt_bd (by omega) Q i).2)
      have hBB := sumTo_bd (f := fun i => term (levelAt 999 M i) (levelAt 20 Q i) (drawAt D i)) (B := 1000 * 1048576) (n := k) (fun i hi => term_bd (by have := levelAt_bd (most := 999) (by omega) M i; omega) (by have := levelAt_bd (most := 999) (by omega) M i; omega) (by decide) (levelAt_bd (by omega) Q i).2)
      have C5 := Lib.hid C5
      have C6 := Lib.hid C6
      have C7 := Lib.hid C7
      have HBZ := Lib.hid (below_on HB2.out HB.out)
      clear hT9 hT10 hT11 HV HTP HTQ
      generalize sumTo (fun i => term (worthAt L i) (levelAt 20 Q i) (drawAt D i)) k = A at *
      generalize sumTo (fun i => term (levelAt 999 M i) (levelAt 20 Q i) (drawAt D i)) k = B at *
      have A0 : -50000000000 ≤ A := by omega
      have A1 : A ≤ 50000000000 := by omega
      have B0 : -50000000000 ≤ B := by omega
      have B1 : B ≤ 50000000000 := by omega
      clear hA hBB
      have tA : (A + B == A + B) = true := by simp
      go_wp2_with fail
      refine C5.out.mono ?_
      rintro e w6 ⟨rfl, hb6⟩
      have HB6 := Lib.hid hb6
      clear hb6 C5
      go_wp2_with fail
      refine (C6.out _ HB6.out).mono ?_
      rintro e w7 ⟨rfl, hb7⟩
      have HB7 := Lib.hid (below_on HB6.out hb7)
      clear hb7 C6 HB6
      go_wp2_with fail
      refine (C7.out _ HB7.out).mono ?_
      rintro e w8 ⟨rfl, hb8⟩
      have HB8 := Lib.hid (below_on HB7.out hb8)
      clear hb8 C7 HB7
      go_wp2
      go_ret
      exact ⟨rfl, below_on HBZ.out HB8.out⟩

set_option maxRecDepth 100000 in
theorem lifted (os : Os) (started : os.Started) (H : Type) (enc : TypeId × Value → H) :
    ReturnsInHanded {} Try.checked os 7 .any (Rows.estAddsSpec.pre6 enc Try.prog Try.f7 Rows.estAddsRow.domain false) (Rows.estAddsSpec.post enc Try.prog Try.f7 false true false false) := by
  refine returnsInHanded_of_change_sized (C := Try.checked) own started (by kernel_rfl) Try.func7
    (ChangeSpec.witness6 (enc := enc) (C := Try.checked) false ⟨#[], #[.slice none 0 0, .slice none 0 0, .slice none 0 0, .slice none 0 0], []⟩ 8 (by kernel_rfl) (by kernel_rfl) (by kernel_rfl) (by kernel_rfl)) ?_
  intro W base args ds gs before hval0 hW hcnd hsz0 _
  have hval : ∀ (j : Nat) t v, Try.f7.params[j]? = some t → args[j]? = some v → Value.okWide Try.prog W .any base t v := hval0
  have hW' := hW
  obtain ⟨p, q, hA0, hV, rfl, hfz, hnd⟩ := hW
  have hA : DataW.TrodAll enc Try.prog W 0 (fun _ => true) true Try.f7.params.toList args.toList ds p := hA0
  have hsz : (DataW.weightsEach Try.prog (Try.f7.params.toList ++ Rows.estAddsSpec.plain.varTypes Try.prog) (ds ++ gs)).all (· ≤ reachBytes) = true := hsz0
  rw [Try.params7] at hA hval hsz
  obtain ⟨v0, vs0, d0, ds0, p0, q0, hargs, rfl, rfl, h0, r0⟩ := trodAll_cons hA
  obtain ⟨v1, vs1, d1, ds1, p1, q1, rfl, rfl, rfl, h1, r1⟩ := trodAll_cons r0
  obtain ⟨v2, vs2, d2, ds2, p2, q2, rfl, rfl, rfl, h2, r2⟩ := trodAll_cons r1
  obtain ⟨v3, vs3, d3, ds3, p3, q3, rfl, rfl, rfl, h3, r3⟩ := trodAll_cons r2
  obtain ⟨rfl, rfl, rfl⟩ := trodAll_nil r3
  obtain rfl : args = #[v0, v1, v2, v3] := by cases args; simp_all
  obtain ⟨rfl, rfl⟩ := trodVars_none hV
  have k0 := h0
  have L0 := light_of hsz (j := 0) (t := 22) (d := d0) rfl rfl
  have lt0 : ∀ x ∈ p0, x.block < W.heap.size := by obtain ⟨m, hm⟩ := k0; exact DataW.trod_lt m _ _ _ hm
  obtain ⟨a0, len0, cap0, rfl⟩ := okWide_slice Try.underlying22 (hval 0 22 v0 rfl rfl)
  obtain ⟨n0, f0⟩ := trod_slice_of Try.underlying22 h0
  have F0 := And.intro f0 L0
  obtain ⟨x0, e0, t0, b0, o0⟩ := el_slice (w := W) (k := 1) iC wfI (by decide) Try.underlying22 (by kernel_rfl) (el_int Try.underlying3) (B := 8) (by kernel_rfl) _ _ _ F0.1 F0.2
  simp only [slC, List.cons.injEq, Value.slice.injEq, and_true] at e0
  obtain ⟨rfl, rfl, rfl⟩ := e0
  have k1 := h1
  have L1 := light_of hsz (j := 1) (t := 22) (d := d1) rfl rfl
  have lt1 : ∀ x ∈ p1, x.block < W.heap.size := by obtain ⟨m, hm⟩ := k1; exact DataW.trod_lt m _ _ _ hm
  obtain ⟨a1, len1, cap1, rfl⟩ := okWide_slice Try.underlying22 (hval 1 22 v1 rfl rfl)
  obtain ⟨n1, f1⟩ := trod_slice_of Try.underlying22 h1
  have F1 := And.intro f1 L1
  obtain ⟨x1, e1, t1, b1, o1⟩ := el_slice (w := W) (k := 1) iC wfI (by decide) Try.underlying22 (by kernel_rfl) (el_int Try.underlying3) (B := 8) (by kernel_rfl) _ _ _ F1.1 F1.2
  simp only [slC, List.cons.injEq, Value.slice.injEq, and_true] at e1
  obtain ⟨rfl, rfl, rfl⟩ := e1
  have k2 := h2
  have L2 := light_of hsz (j := 2) (t := 22) (d := d2) rfl rfl
  have lt2 : ∀ x ∈ p2, x.block < W.heap.size := by obtain ⟨m, hm⟩ := k2; exact DataW.trod_lt m _ _ _ hm
  obtain ⟨a2, len2, cap2, rfl⟩ := okWide_slice Try.underlying22 (hval 2 22 v2 rfl rfl)
  obtain ⟨n2, f2⟩ := trod_slice_of Try.underlying22 h2
  have F2 := And.intro f2 L2
  obtain ⟨x2, e2, t2, b2, o2⟩ := el_slice (w := W) (k := 1) iC wfI (by decide) Try.underlying22 (by kernel_rfl) (el_int Try.underlying3) (B := 8) (by kernel_rfl) _ _ _ F2.1 F2.2
  simp only [slC, List.cons.injEq, Value.slice.injEq, and_true] at e2
  obtain ⟨rfl, rfl, rfl⟩ := e2
  have k3 := h3
  have L3 := light_of hsz (j := 3) (t := 22) (d := d3) rfl rfl
  have lt3 : ∀ x ∈ p3, x.block < W.heap.size := by obtain ⟨m, hm⟩ := k3; exact DataW.trod_lt m _ _ _ hm
  obtain ⟨a3, len3, cap3, rfl⟩ := okWide_slice Try.underlying22 (hval 3 22 v3 rfl rfl)
  obtain ⟨n3, f3⟩ := trod_slice_of Try.underlying22 h3
  have F3 := And.intro f3 L3
  obtain ⟨x3, e3, t3, b3, o3⟩ := el_slice (w := W) (k := 1) iC wfI (by decide) Try.underlying22 (by kernel_rfl) (el_int Try.underlying3) (B := 8) (by kernel_rfl) _ _ _ F3.1 F3.2
  simp only [slC, List.cons.injEq, Value.slice.injEq, and_true] at e3
  obtain ⟨rfl, rfl, rfl⟩ := e3
  clear hA0 hval0
  refine (walk x0 x1 x2 x3 W t0 b0 o0 t1 b1 o1 t2 b2 o2 t3 b3 o3).mono fun e W' ⟨he, hg⟩ => ?_
  subst he
  exact ⟨_, rfl, _, _, _, [], _, [], hW', trodAll_mk1 (shut_bool Try.underlying4 _), (trodAll_cons_mk (Below.trod laidOut (by kernel_rfl) (of_decide_eq_true (by kernel_rfl)) k0 hg lt0) (trodAll_cons_mk (Below.trod laidOut (by kernel_rfl) (of_decide_eq_true (by kernel_rfl)) k1 hg lt1) (trodAll_cons_mk (Below.trod laidOut (by kernel_rfl) (of_decide_eq_true (by kernel_rfl)) k2 hg lt2) (trodAll_cons_mk (Below.trod laidOut (by kernel_rfl) (of_decide_eq_true (by kernel_rfl)) k3 hg lt3) trodAll_mk0)))), rfl, hg.frame _, fun h => by cases h⟩

theorem over : Rows.estAddsRow.holds Try.pinned (OpenSpec.ofChange Rows.estAddsSpec) :=
  OpenClaim.holds_of_wide 7 Try.f7 rfl rfl rfl rfl rfl rfl rfl ⟨rfl, rfl, rfl, rfl, rfl⟩ rfl rfl rfl rfl rfl (by kernel_rfl) Try.func7 (by kernel_rfl)
    (of_decide_eq_true (by kernel_rfl)) (by unfold Func.isWrapper; first | (rw [if_pos (by decide +kernel)]; kernel_rfl) | (rw [if_neg (by decide +kernel)]; exact ⟨rfl, rfl⟩))
    (fun os started H enc _ => lifted os started H enc)

/-- ████ THE STATEMENT ████ -/
theorem proved : Rows.EstAddsSaid :=
  over
#print axioms proved
end Go.Proofs.Ytfgcmlgdgmcffaa.estAdds
