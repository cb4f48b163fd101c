/-
  'Rows.EstAllSaid' is proved: at level 0 the estimate is the total, whatever the draws; by draws below one half it is 0 at level 1. No condition.
-/
import Derived.Test.YtfgcmlgdgmcffaaRows
import Derived.Test.YtfgcmlgdgmcffaaShapes
import Derived.Test.YtfgcmlgdgmcffaaEstSum
import Derived.Test.YtfgcmlgdgmcffaaEstLits
import Derived.Test.YtfgcmlgdgmcffaaWorth
import Derived.Test.YtfgcmlgdgmcffaaDraw
import Derived.Deep.DeepCutAuto
import Derived.WalkKit
import Derived.ProofKit
import Derived.OpenShut
import Derived.ShutString
import Derived.ChangeOld
import Derived.Below
namespace Go.Proofs.Ytfgcmlgdgmcffaa.estAll
open Go.ChangeShapes Go.WideShapes Go.ChangeAt Go.RowKit
open Go.ChangeMaps (open_string shut_string)
set_option linter.unusedVariables false

theorem own : ownKnob Try.prog.godebug = none := by kernel_rfl
theorem laidOut : laidOutB Try.prog = true := by kernel_rfl

open Est Span
theorem half_walk {d : Int} (h0 : 0 ≤ d) (h1 : d < 72057594037927936) : d.tdiv 2 = d / 2 := Int.tdiv_eq_ediv_of_nonneg h0

set_option maxRecDepth 100000 in
set_option maxHeartbeats 2000000 in
theorem walk (x0 : Sl Int) (x1 : Sl Int) (w : World) (t0 : Tab w x0.a x0.len x0.cap 1 (x0.l.map iC)) (b0 : x0.len * 8 ≤ 140737488351232) (o0 : ∀ z ∈ x0.l, wfI z) (t1 : Tab w x1.a x1.len x1.cap 1 (x1.l.map iC)) (b1 : x1.len * 8 ≤ 140737488351232) (o1 : ∀ z ∈ x1.l, wfI z) :
    Calls Try.prog 10 #[.slice x0.a x0.len x0.cap, .slice x1.a x1.len x1.cap] w fun e w' => e = .returned (.bool true) ∧ Below w.heap.size w w' := by
  obtain ⟨a, len, cap, L⟩ := x0
  obtain ⟨a2, len2, cap2, D⟩ := x1
  have hm2 := t1.hmax
  have hle2 := t1.hle
  unfold maxLen at hm2
  have hl2 := t1.hlen
  rw [List.length_map] at hl2
  have HL2 : Hid (D.length = len2) := Lib.hid hl2
  obtain ⟨l1, l2, l3, hb0⟩ := lits3 w 1 [5] [1] [0] #[.int .i64 5] #[.int .i64 1] #[.int .i64 0] rfl rfl rfl rfl rfl rfl (by decide)
  have C0 := sum_any _ _ _ 1 1 1 1 1 1 [5] [1] [0] _ l1 l2 l3
  obtain ⟨s1, s2⟩ := sumR_one (x := 5) (n := 1) (r := 0) (by decide) (by decide) (by decide)
  rw [s1, s2, term_low (by decide)] at C0
  have C0 := Lib.hid C0
  have HB0 := Lib.hid hb0
  have CW := Lib.hid (fun W (hb : Below w.heap.size w W) => worth_any a none len cap 0 0 L [] 40 0 W (t0.below hb) (tab_nil W) (fun z hz => o0 z hz) (fun z hz => by cases hz) (by decide) (by decide) (by decide))
  have HT1 := Lib.hid t1
  have HO1 := Lib.hid o1
  obtain ⟨n, hn⟩ : ∃ n, min len 40 = n := ⟨_, rfl⟩
  rw [hn] at CW
  have hn40 : n ≤ 40 := by omega
  clear t0 o0 t1 o1 hl2 l1 l2 l3 hb0 s1 s2 hn
  go_enter Try.func10, Try.ntmps10
  go_wp2_with fail
  refine C0.out.mono ?_
  rintro e v1 ⟨rfl, hb1⟩
  have HB1 := Lib.hid (below_on HB0.out hb1)
  clear hb1 C0 HB0
  go_wp2_with fail
  refine (CW.out _ HB1.out).mono ?_
  rintro e v2 ⟨p, q, rfl, hM, hb2⟩
  have HB2 := Lib.hid (below_on HB1.out hb2)
  obtain ⟨ap, cp, rfl, hTp⟩ := (hM.at (v := p) (L := listTo (worthAt L) n) (by simp)).tab
  obtain ⟨aq, cq, rfl, hTq⟩ := (hM.at (v := q) (L := listTo (levelAt 0 []) n) (by simp)).tab
  rw [List.length_map, listTo_len] at hTp hTq
  rw [List.length_map, List.length_map, listTo_len, listTo_len]
  have HTP := Lib.hid hTp
  have HTQ := Lib.hid hTq
  clear hb2 hM hTp hTq CW HB1
  go_wp2_with fail
  go_loopg [9, 10, 11, 38] n (fun g va vb vc i wr => ∃ k : Nat, k + g = n ∧ i = .int .i64 k ∧ Hid (Many wr v2.heap.size 3 [(va, listTo (drawAt D) k), (vb, listTo (fun i => drawAt D i / 2) k), (vc, listTo (fun _ => 1) k)]) ∧ Hid (Below v2.heap.size v2 wr))
  case atStart => exact ⟨0, by omega, rfl, Lib.hid ⟨by intro p hp; simp at hp; rcases hp with rfl | rfl | rfl <;> exact Own.nil _ _ _ _, by simp [Apart, apart_nil, Value.ownBlock]⟩, Lib.hid (Below.refl _ _)⟩
  case round =>
    obtain ⟨k, hk0, rfl, HV, HB⟩ := hrel
    have HJ := Lib.hid hk0
    have hk : k ≤ n := by omega
    clear hk0
    by_cases hlt : k < n
    · have HN3 : Hid (listTo (fun _ => 1) (k + 1) = listTo (fun _ => 1) k ++ [1]) := Lib.hid (listTo_succ _ _)
      have HV1 : Hid (k ≤ 40) := Lib.hid (by omega)
      by_cases hlt2 : k < len2
      · obtain ⟨z, hz⟩ : ∃ z, D[k]? = some z := ⟨_, List.getElem?_eq_getElem (by rw [HL2.out]; omega)⟩
        obtain ⟨b2, o2, ha2, hbs2, c2⟩ := HT1.out.one (below_on HB2.out HB.out) (map_get hz)
        have hwz := wf_i64 (HO1.out z (List.mem_of_getElem? hz))
        have HW2 := Lib.hid (fun w => draw_int z w hwz)
        have hd := withI_bd z 72057594037927936 (by omega)
        have HN1 : Hid (listTo (drawAt D) (k + 1) = listTo (drawAt D) k ++ [withI z 72057594037927936]) := Lib.hid (by rw [listTo_succ, drawAt_some hz])
        have HN2 : Hid (listTo (fun i => drawAt D i / 2) (k + 1) = listTo (fun i => drawAt D i / 2) k ++ [withI z 72057594037927936 / 2]) := Lib.hid (by rw [listTo_succ, drawAt_some hz])
        subst ha2
        clear hz hwz
        generalize withI z 72057594037927936 = d at *
        obtain ⟨d0, d1⟩ := hd
        have q1 := half_walk d0 d1
        obtain ⟨h, hh⟩ : ∃ h, d / 2 = h := ⟨_, rfl⟩
        rw [hh] at HN2 q1
        have h0 : 0 ≤ h := by omega
        have h1 : h < 72057594037927936 := by omega
        clear hh
        go_wp2_with fail
        refine (HW2.out _).mono ?_
        rintro e w5 ⟨rfl, rfl⟩
        go_wp2_with (first | (at_builtin; refine wpList_append_rows_at _ rfl _ _ 22 rfl v2.heap.size 3 _ 1 8 Try.underlying22 info_int rfl (by decide) _ ((listTo (drawAt D) k).map iC) rfl ((HV.out.at (v := u9) (L := listTo (drawAt D) k) (by simp)).alloc _) ⟨wr.heap.size, 0, none⟩ 1 1 [iC d] rfl rfl (by simp [iC]) (one_row wr (iC d) 3 _ rfl) (by simp [iC, Value.oneCell']) (by have := HV1.out; simp only [List.length_map, listTo_len]; omega) (by decide) (Nat.le_trans HB.out.size (by simp)) ?_; intro v6 w6 hO6 hg6 hat6; have HM6 := Lib.hid (Many.grow (A := []) (L' := listTo (drawAt D) (k + 1)) (HV.out.alloc (.cells (iC d).toArray 3)) (by rw [HN1.out, List.map_append]; exact hO6) hg6 hat6); have HB6 := Lib.hid (((HV.out.at (v := u9) (L := listTo (drawAt D) k) (by simp)).alloc (.cells (iC d).toArray 3)).under (HB.out.alloc HB.out.size _) (Nat.le_refl _) (Nat.le_trans HB.out.size (by simp)) hg6); clear hO6 hg6 hat6) | (at_builtin; refine wpList_append_rows_at _ rfl _ _ 22 rfl v2.heap.size 3 _ 1 8 Try.underlying22 info_int rfl (by decide) _ ((listTo (fun i => drawAt D i / 2) k).map iC) rfl ((HM6.out.at (v := u10) (L := listTo (fun i => drawAt D i / 2) k) (by simp)).alloc _) ⟨w6.heap.size, 0, none⟩ 1 1 [iC h] rfl rfl (by simp [iC]) (one_row w6 (iC h) 3 _ rfl) (by simp [iC, Value.oneCell']) (by have := HV1.out; simp only [List.length_map, listTo_len]; omega) (by decide) (Nat.le_trans HB6.out.size (by simp)) ?_; intro v7 w7 hO7 hg7 hat7; have HM7 := Lib.hid (Many.grow (A := [(v6, listTo (drawAt D) (k + 1))]) (L' := listTo (fun i => drawAt D i / 2) (k + 1)) (HM6.out.alloc (.cells (iC h).toArray 3)) (by rw [HN2.out, List.map_append]; exact hO7) hg7 hat7); have HB7 := Lib.hid (((HM6.out.at (v := u10) (L := listTo (fun i => drawAt D i / 2) k) (by simp)).alloc (.cells (iC h).toArray 3)).under (HB6.out.alloc HB6.out.size _) (Nat.le_refl _) (Nat.le_trans HB6.out.size (by simp)) hg7); clear hO7 hg7 hat7) | (at_builtin; refine wpList_append_rows_at _ rfl _ _ 22 rfl v2.heap.size 3 _ 1 8 Try.underlying22 info_int rfl (by decide) _ ((listTo (fun _ => 1) k).map iC) rfl ((HM7.out.at (v := u11) (L := listTo (fun _ => 1) k) (by simp)).alloc _) ⟨w7.heap.size, 0, none⟩ 1 1 [iC 1] rfl rfl (by simp [iC]) (one_row w7 (iC 1) 3 _ rfl) (by simp [iC, Value.oneCell']) (by have := HV1.out; simp only [List.length_map, listTo_len]; omega) (by decide) (Nat.le_trans HB7.out.size (by simp)) ?_; intro v8 w8 hO8 hg8 hat8; have HM8 := Lib.hid (Many.grow (A := [(v6, listTo (drawAt D) (k + 1)), (v7, listTo (fun i => drawAt D i / 2) (k + 1))]) (B := []) (L' := listTo (fun _ => 1) (k + 1)) (HM7.out.alloc (.cells (iC 1).toArray 3)) (by rw [HN3.out, List.map_append]; exact hO8) hg8 hat8); have HB8 := Lib.hid (((HM7.out.at (v := u11) (L := listTo (fun _ => 1) k) (by simp)).alloc (.cells (iC 1).toArray 3)).under (HB7.out.alloc HB7.out.size _) (Nat.le_refl _) (Nat.le_trans HB7.out.size (by simp)) hg8); clear hO8 hg8 hat8))
        go_roundg (n - (k + 1))
        case measure => have := HJ.out; omega
        case rel => exact ⟨k + 1, by omega, by go_num, HM8, HB8⟩
      · have hlt2' : len2 ≤ k := by omega
        have HN1 : Hid (listTo (drawAt D) (k + 1) = listTo (drawAt D) k ++ [0]) := Lib.hid (by rw [listTo_succ, drawAt_none (by rw [HL2.out]; omega)])
        have HN2 : Hid (listTo (fun i => drawAt D i / 2) (k + 1) = listTo (fun i => drawAt D i / 2) k ++ [0]) := Lib.hid (by rw [listTo_succ, drawAt_none (by rw [HL2.out]; omega)]; rfl)
        clear hlt2
        go_wp2_with (first | (at_builtin; refine wpList_append_rows_at _ rfl _ _ 22 rfl v2.heap.size 3 _ 1 8 Try.underlying22 info_int rfl (by decide) _ ((listTo (drawAt D) k).map iC) rfl ((HV.out.at (v := u9) (L := listTo (drawAt D) k) (by simp)).alloc _) ⟨wr.heap.size, 0, none⟩ 1 1 [iC 0] rfl rfl (by simp [iC]) (one_row wr (iC 0) 3 _ rfl) (by simp [iC, Value.oneCell']) (by have := HV1.out; simp only [List.length_map, listTo_len]; omega) (by decide) (Nat.le_trans HB.out.size (by simp)) ?_; intro v6 w6 hO6 hg6 hat6; have HM6 := Lib.hid (Many.grow (A := []) (L' := listTo (drawAt D) (k + 1)) (HV.out.alloc (.cells (iC 0).toArray 3)) (by rw [HN1.out, List.map_append]; exact hO6) hg6 hat6); have HB6 := Lib.hid (((HV.out.at (v := u9) (L := listTo (drawAt D) k) (by simp)).alloc (.cells (iC 0).toArray 3)).under (HB.out.alloc HB.out.size _) (Nat.le_refl _) (Nat.le_trans HB.out.size (by simp)) hg6); clear hO6 hg6 hat6) | (at_builtin; refine wpList_append_rows_at _ rfl _ _ 22 rfl v2.heap.size 3 _ 1 8 Try.underlying22 info_int rfl (by decide) _ ((listTo (fun i => drawAt D i / 2) k).map iC) rfl ((HM6.out.at (v := u10) (L := listTo (fun i => drawAt D i / 2) k) (by simp)).alloc _) ⟨w6.heap.size, 0, none⟩ 1 1 [iC 0] rfl rfl (by simp [iC]) (one_row w6 (iC 0) 3 _ rfl) (by simp [iC, Value.oneCell']) (by have := HV1.out; simp only [List.length_map, listTo_len]; omega) (by decide) (Nat.le_trans HB6.out.size (by simp)) ?_; intro v7 w7 hO7 hg7 hat7; have HM7 := Lib.hid (Many.grow (A := [(v6, listTo (drawAt D) (k + 1))]) (L' := listTo (fun i => drawAt D i / 2) (k + 1)) (HM6.out.alloc (.cells (iC 0).toArray 3)) (by rw [HN2.out, List.map_append]; exact hO7) hg7 hat7); have HB7 := Lib.hid (((HM6.out.at (v := u10) (L := listTo (fun i => drawAt D i / 2) k) (by simp)).alloc (.cells (iC 0).toArray 3)).under (HB6.out.alloc HB6.out.size _) (Nat.le_refl _) (Nat.le_trans HB6.out.size (by simp)) hg7); clear hO7 hg7 hat7) | (at_builtin; refine wpList_append_rows_at _ rfl _ _ 22 rfl v2.heap.size 3 _ 1 8 Try.underlying22 info_int rfl (by decide) _ ((listTo (fun _ => 1) k).map iC) rfl ((HM7.out.at (v := u11) (L := listTo (fun _ => 1) k) (by simp)).alloc _) ⟨w7.heap.size, 0, none⟩ 1 1 [iC 1] rfl rfl (by simp [iC]) (one_row w7 (iC 1) 3 _ rfl) (by simp [iC, Value.oneCell']) (by have := HV1.out; simp only [List.length_map, listTo_len]; omega) (by decide) (Nat.le_trans HB7.out.size (by simp)) ?_; intro v8 w8 hO8 hg8 hat8; have HM8 := Lib.hid (Many.grow (A := [(v6, listTo (drawAt D) (k + 1)), (v7, listTo (fun i => drawAt D i / 2) (k + 1))]) (B := []) (L' := listTo (fun _ => 1) (k + 1)) (HM7.out.alloc (.cells (iC 1).toArray 3)) (by rw [HN3.out, List.map_append]; exact hO8) hg8 hat8); have HB8 := Lib.hid (((HM7.out.at (v := u11) (L := listTo (fun _ => 1) k) (by simp)).alloc (.cells (iC 1).toArray 3)).under (HB7.out.alloc HB7.out.size _) (Nat.le_refl _) (Nat.le_trans HB7.out.size (by simp)) hg8); clear hO8 hg8 hat8))
        go_roundg (n - (k + 1))
        case measure => have := HJ.out; omega
        case rel => exact ⟨k + 1, by omega, by go_num, HM8, HB8⟩
    · obtain rfl : k = n := by omega
      obtain ⟨ar, cr, e9, hT9⟩ := (HV.out.at (v := u9) (L := listTo (drawAt D) k) (by simp)).tab
      obtain ⟨ah, ch, e10, hT10⟩ := (HV.out.at (v := u10) (L := listTo (fun i => drawAt D i / 2) k) (by simp)).tab
      obtain ⟨ao, co, e11, hT11⟩ := (HV.out.at (v := u11) (L := listTo (fun _ => 1) k) (by simp)).tab
      rw [List.length_map, listTo_len] at hT9 hT10 hT11 e9 e10 e11
      subst e9 e10 e11
      have hE : listTo (levelAt 0 []) k = listTo (fun _ => 0) k := listTo_congr (fun i _ => by simp [levelAt])
      have C5 := sum_any ap aq ar k cp k cq k cr _ _ _ wr (HTP.out.below HB.out) (HTQ.out.below HB.out) hT9
      rw [hE, sumE_listTo hn40 (fun i _ => by have := worthAt_bd L i; omega) (fun i _ => by decide) (fun i _ => drawAt_bd D i), sumR_listTo (B := 1000) hn40 (by decide) (by decide) (fun i _ => worthAt_bd L i) (fun i _ => by decide) (fun i _ => drawAt_bd D i), sumTo_congr (g := worthAt L) (fun i _ => term_zero (drawAt_bd D i).1)] at C5
      have C6 := fun W (hW : Below wr.heap.size wr W) => sum_any ap ao ah k cp k co k ch _ _ _ W ((HTP.out.below HB.out).below hW) (hT11.below hW) (hT10.below hW)
      rw [sumE_listTo hn40 (fun i _ => by have := worthAt_bd L i; omega) (fun i _ => by decide) (fun i _ => by have := drawAt_bd D i; omega), sumR_listTo (B := 1000) hn40 (by decide) (by decide) (fun i _ => worthAt_bd L i) (fun i _ => by decide) (fun i _ => by have := drawAt_bd D i; omega), sumTo_congr (g := fun _ => 0) (fun i _ => term_low (by have := drawAt_bd D i; omega)), sumTo_zero] at C6
      have C7 := Lib.hid (fun W (hW : Below wr.heap.size wr W) => keepSum_to ap k cp (worthAt L) W ((HTP.out.below HB.out).below hW) hn40 (fun i _ => by have := worthAt_bd L i; omega))
      have C5 := Lib.hid C5
      have C6 := Lib.hid C6
      have HBZ := Lib.hid (below_on HB2.out HB.out)
      clear hT9 hT10 hT11 hE HV HTP HTQ
      generalize sumTo (worthAt L) k = A at *
      have tA : (A == A) = true := by simp
      go_wp2_with fail
      refine C5.out.mono ?_
      rintro e w6 ⟨rfl, hb6⟩
      have HB6 := Lib.hid hb6
      clear hb6 C5
      go_wp2_with fail
      refine (C6.out _ HB6.out).mono ?_
      rintro e w7 ⟨rfl, hb7⟩
      have HB7 := Lib.hid (below_on HB6.out hb7)
      clear hb7 C6 HB6
      go_wp2_with fail
      refine (C7.out _ HB7.out).mono ?_
      rintro e w8 ⟨rfl, rfl⟩
      go_wp2
      go_ret
      exact ⟨rfl, below_on HBZ.out HB7.out⟩

set_option maxRecDepth 100000 in
theorem lifted (os : Os) (started : os.Started) (H : Type) (enc : TypeId × Value → H) :
    ReturnsInHanded {} Try.checked os 10 .any (Rows.estAllSpec.pre6 enc Try.prog Try.f10 Rows.estAllRow.domain false) (Rows.estAllSpec.post enc Try.prog Try.f10 false true false false) := by
  refine returnsInHanded_of_change_sized (C := Try.checked) own started (by kernel_rfl) Try.func10
    (ChangeSpec.witness6 (enc := enc) (C := Try.checked) false ⟨#[], #[.slice none 0 0, .slice none 0 0], []⟩ 8 (by kernel_rfl) (by kernel_rfl) (by kernel_rfl) (by kernel_rfl)) ?_
  intro W base args ds gs before hval0 hW hcnd hsz0 _
  have hval : ∀ (j : Nat) t v, Try.f10.params[j]? = some t → args[j]? = some v → Value.okWide Try.prog W .any base t v := hval0
  have hW' := hW
  obtain ⟨p, q, hA0, hV, rfl, hfz, hnd⟩ := hW
  have hA : DataW.TrodAll enc Try.prog W 0 (fun _ => true) true Try.f10.params.toList args.toList ds p := hA0
  have hsz : (DataW.weightsEach Try.prog (Try.f10.params.toList ++ Rows.estAllSpec.plain.varTypes Try.prog) (ds ++ gs)).all (· ≤ reachBytes) = true := hsz0
  rw [Try.params10] at hA hval hsz
  obtain ⟨v0, vs0, d0, ds0, p0, q0, hargs, rfl, rfl, h0, r0⟩ := trodAll_cons hA
  obtain ⟨v1, vs1, d1, ds1, p1, q1, rfl, rfl, rfl, h1, r1⟩ := trodAll_cons r0
  obtain ⟨rfl, rfl, rfl⟩ := trodAll_nil r1
  obtain rfl : args = #[v0, v1] := by cases args; simp_all
  obtain ⟨rfl, rfl⟩ := trodVars_none hV
  have k0 := h0
  have L0 := light_of hsz (j := 0) (t := 22) (d := d0) rfl rfl
  have lt0 : ∀ x ∈ p0, x.block < W.heap.size := by obtain ⟨m, hm⟩ := k0; exact DataW.trod_lt m _ _ _ hm
  obtain ⟨a0, len0, cap0, rfl⟩ := okWide_slice Try.underlying22 (hval 0 22 v0 rfl rfl)
  obtain ⟨n0, f0⟩ := trod_slice_of Try.underlying22 h0
  have F0 := And.intro f0 L0
  obtain ⟨x0, e0, t0, b0, o0⟩ := el_slice (w := W) (k := 1) iC wfI (by decide) Try.underlying22 (by kernel_rfl) (el_int Try.underlying3) (B := 8) (by kernel_rfl) _ _ _ F0.1 F0.2
  simp only [slC, List.cons.injEq, Value.slice.injEq, and_true] at e0
  obtain ⟨rfl, rfl, rfl⟩ := e0
  have k1 := h1
  have L1 := light_of hsz (j := 1) (t := 22) (d := d1) rfl rfl
  have lt1 : ∀ x ∈ p1, x.block < W.heap.size := by obtain ⟨m, hm⟩ := k1; exact DataW.trod_lt m _ _ _ hm
  obtain ⟨a1, len1, cap1, rfl⟩ := okWide_slice Try.underlying22 (hval 1 22 v1 rfl rfl)
  obtain ⟨n1, f1⟩ := trod_slice_of Try.underlying22 h1
  have F1 := And.intro f1 L1
  obtain ⟨x1, e1, t1, b1, o1⟩ := el_slice (w := W) (k := 1) iC wfI (by decide) Try.underlying22 (by kernel_rfl) (el_int Try.underlying3) (B := 8) (by kernel_rfl) _ _ _ F1.1 F1.2
  simp only [slC, List.cons.injEq, Value.slice.injEq, and_true] at e1
  obtain ⟨rfl, rfl, rfl⟩ := e1
  clear hA0 hval0
  refine (walk x0 x1 W t0 b0 o0 t1 b1 o1).mono fun e W' ⟨he, hg⟩ => ?_
  subst he
  exact ⟨_, rfl, _, _, _, [], _, [], hW', trodAll_mk1 (shut_bool Try.underlying4 _), (trodAll_cons_mk (Below.trod laidOut (by kernel_rfl) (of_decide_eq_true (by kernel_rfl)) k0 hg lt0) (trodAll_cons_mk (Below.trod laidOut (by kernel_rfl) (of_decide_eq_true (by kernel_rfl)) k1 hg lt1) trodAll_mk0)), rfl, hg.frame _, fun h => by cases h⟩

theorem over : Rows.estAllRow.holds Try.pinned (OpenSpec.ofChange Rows.estAllSpec) :=
  OpenClaim.holds_of_wide 10 Try.f10 rfl rfl rfl rfl rfl rfl rfl ⟨rfl, rfl, rfl, rfl, rfl⟩ rfl rfl rfl rfl rfl (by kernel_rfl) Try.func10 (by kernel_rfl)
    (of_decide_eq_true (by kernel_rfl)) (by unfold Func.isWrapper; first | (rw [if_pos (by decide +kernel)]; kernel_rfl) | (rw [if_neg (by decide +kernel)]; exact ⟨rfl, rfl⟩))
    (fun os started H enc _ => lifted os started H enc)

/-- ████ THE STATEMENT ████ -/
theorem proved : Rows.EstAllSaid :=
  over
#print axioms proved
end Go.Proofs.Ytfgcmlgdgmcffaa.estAll
