/-
  'Rows.TopSketchesSaid' is proved: what comes to many sketches, and is joined, is as if all had come to one, by each of the five ways. No condition.
-/
import Derived.Test.YtffgoekdjcempabRows
import Derived.Test.YtffgoekdjcempabGr4
import Derived.Test.YtffgoekdjcempabBegun
import Derived.Test.YtffgoekdjcempabWithin
import Derived.Test.YtffgoekdjcempabGr12
import Derived.Test.YtffgoekdjcempabGr52
import Derived.Test.YtffgoekdjcempabRefSame
import Derived.Test.YtffgoekdjcempabGr54
import Derived.Test.YtffgoekdjcempabGr8
import Derived.Test.YtffgoekdjcempabSubSlice
import Derived.Laws.EntriesVeiled
import Derived.Deep.DeepCutAuto
import Derived.Deep.LoopGhost
import Derived.WalkKit
import Derived.ProofKit
import Derived.OpenShut
import Derived.ShutString
import Derived.ChangeOld
import Derived.Below
namespace Go.Proofs.Ytffgoekdjcempab.topSketches
open Go.ChangeShapes Go.WideShapes Go.ChangeAt Go.RowKit
open Go.ChangeMaps (open_string shut_string)
set_option linter.unusedVariables false

theorem own : ownKnob Try.prog.godebug = none := by kernel_rfl
theorem laidOut : laidOutB Try.prog = true := by kernel_rfl

--BEATS
open Tbl Five
open Few (kept_blk)
theorem size_intTS (w : World) : (sizeOf 3).run Try.prog w = .ok 1 w := by kernel_rfl
theorem elem_intTS : Try.prog.elem 53 = 3 := by kernel_rfl
theorem size_strTS (w : World) : (sizeOf 9).run Try.prog w = .ok 1 w := by kernel_rfl
theorem elem_strTS : Try.prog.elem 63 = 9 := by kernel_rfl
theorem keyOk_snoc {Q : List Int} {y : Int} (h : keyOk Q) (hy : 0 ≤ y ∧ y < 72057594037927936) : keyOk (Q ++ [y]) := by
  intro z hz
  rcases List.mem_append.1 hz with hz | hz
  · exact h z hz
  · rw [List.mem_singleton] at hz
    subst hz
    exact hy

set_option maxRecDepth 100000 in
set_option maxHeartbeats 12000000 in
theorem walk (x0 : Sl ByteArray) (x1 : Int) (w : World) (t0 : Tab w x0.a x0.len x0.cap 1 (x0.l.map sC)) (b0 : x0.len * 16 ≤ 140737488351232) (o0 : ∀ z ∈ x0.l, wfS z) (w1 : (Lit.int .i64 x1).wf = true) :
    Calls Try.prog 4 #[.slice x0.a x0.len x0.cap, .int .i64 x1] w fun e w' => e = .returned (.bool true) ∧ Below w.heap.size w w' := by
  obtain ⟨a, len, cap, L⟩ := x0
  simp only at t0 b0 o0
  generalize x1 = cut at *
  have hc := wf_i64 w1
  have hl := t0.hlen
  rw [List.length_map] at hl
  have hle := t0.hle
  have hcm := t0.hmax
  unfold maxLen at hcm
  obtain ⟨n, hn⟩ : ∃ n, min 60 len = n := ⟨_, rfl⟩
  have hn60 : n ≤ 60 := by omega
  have hnl : n ≤ len := by omega
  have HT := Lib.hid t0
  have HL := Lib.hid hl
  have HC := Lib.hid hc
  have rU := run_upto 63 9 1 Try.underlying63 elem_strTS size_strTS a len cap n (by omega)
  clear t0 o0 b0 w1 hl hc
  go_enter Try.func4, Try.ntmps4
  go_wp2_with fail
  refine (begun_any _).mono ?_
  rintro e v1 ⟨rfl, hb1⟩
  have HB1 := Lib.hid hb1
  clear hb1
  go_upto_region 4 with fail
  go_cut [46, 47, 48] (fun s t i wx => s = .slice a n cap ∧ t = .int .i64 n ∧ i = .int .i64 0 ∧ wx = v1)
  case first =>
    by_cases h9 : len ≤ 60
    · obtain rfl : n = len := by omega
      clear hn
      go_wp2_with fail
      go_meet
      case rel => exact ⟨congrArg (fun t => Value.slice a t cap) (by omega), congrArg (Value.int IntKind.i64) (by omega), rfl, rfl⟩
    · obtain rfl : n = 60 := by omega
      have h9' : 60 < len := by omega
      clear hn h9
      go_wp2_with fail
      go_meet
      case rel => exact ⟨congrArg (fun t => Value.slice a t cap) (by omega), congrArg (Value.int IntKind.i64) (by omega), rfl, rfl⟩
  case rest =>
  obtain ⟨rfl, rfl, rfl, hv⟩ := hcut
  have hv := hv.symm
  subst hv
  clear rU hn
  go_wp2_with fail
  go_loopg [5, 48] n (fun g v i wr => ∃ (k : Nat) (Q : List Int), k + g = n ∧ i = .int .i64 k ∧ Hid (Q.length = k) ∧ Hid (keyOk Q) ∧ Hid (Own wr v1.heap.size 3 1 v (Q.map iC)) ∧ Hid (Below v1.heap.size v1 wr))
  case atStart => exact ⟨0, [], by omega, rfl, Lib.hid rfl, Lib.hid (fun y hy => by cases hy), Lib.hid (Own.nil _ _ _ _), Lib.hid (Below.refl _ _)⟩
  case round =>
    obtain ⟨k, Q, hk0, rfl, HQL, HKQ, HV, HB⟩ := hrel
    have HJ := Lib.hid hk0
    have hk : k ≤ n := by omega
    clear hk0
    by_cases hlt : k < n
    · obtain ⟨s, hx⟩ : ∃ x, L[k]? = some x := ⟨_, List.getElem?_eq_getElem (by rw [HL.out]; omega)⟩
      obtain ⟨b1, o1, ha, hbs, c0⟩ := HT.out.one (below_on HB1.out HB.out) (map_get hx)
      subst ha
      clear hx
      obtain ⟨wo, hwo⟩ : ∃ wo, wo = wr := ⟨_, rfl⟩
      subst hwo
      go_upto_region 7 with fail
      clear c0
      go_cut [8, 9] (fun x e wx => ∃ y : Int, x = .int .i64 y ∧ e = .int .i64 0 ∧ Hid (0 ≤ y ∧ y < 72057594037927936) ∧ wx = wo)
      case first =>
        by_cases h200 : s.size ≤ 200
        · go_wp2_with fail
          refine (of_small _ _ (by rw [ByteArray.size_extract]; omega)).mono ?_
          rintro e W ⟨rfl, rfl⟩
          go_wp2_with fail
          go_meet
          case rel => exact ⟨_, rfl, rfl, Lib.hid (ofI_bd _), rfl⟩
        · have h200' : 200 < s.size := by omega
          clear h200
          go_wp2_with fail
          refine (of_small _ _ (by rw [ByteArray.size_extract]; omega)).mono ?_
          rintro e W ⟨rfl, rfl⟩
          go_wp2_with fail
          go_meet
          case rel => exact ⟨_, rfl, rfl, Lib.hid (ofI_bd _), rfl⟩
      case rest =>
      obtain ⟨y, rfl, rfl, HY, hv⟩ := hcut
      have hv := hv.symm
      subst hv
      go_wp2_with (at_builtin; refine wpList_append_rows _ rfl _ _ 53 rfl v1.heap.size 3 _ 1 8 Try.underlying53 info_int rfl (by decide) _ (Q.map iC) rfl (HV.out.alloc _) ⟨wo.heap.size, 0, none⟩ 1 1 [iC y] rfl rfl (by simp [iC]) (one_row wo (iC y) 3 _ rfl) (by simp [iC, Value.oneCell']) (by rw [List.length_map, HQL.out]; omega) (by decide) (by have := HB.out.size; simp; omega) ?_; intro v6 w6 hO6 hg6)
      go_roundg (n - (k + 1))
      case measure => have := HJ.out; omega
      case rel => exact ⟨k + 1, Q ++ [y], by omega, by go_num, Lib.hid (by rw [List.length_append, HQL.out]; rfl), Lib.hid (keyOk_snoc HKQ.out HY.out), by rw [List.map_append]; exact Lib.hid hO6, Lib.hid ((HV.out.alloc _).under (HB.out.alloc HB.out.size _) (Nat.le_refl _) (by have := HB.out.size; simp; omega) hg6)⟩
    · obtain rfl : k = n := by omega
      clear HJ hk hlt
      obtain ⟨p, c, rfl, hTQ⟩ := Regs.own_ints HV.out HQL.out
      have HTQ := Lib.hid hTQ
      have hcc := hTQ.hle
      have hcx := hTQ.hmax
      unfold maxLen at hcx
      have HB0 := Lib.hid (below_on HB1.out HB.out)
      have dT := withI_bd cut ((k : Int) + 1) (by omega)
      have CW := Lib.hid (within_int cut ((k : Int) + 1) wr HC.out (by omega) (by omega))
      clear hTQ HV HB HB1
      generalize withI cut ((k : Int) + 1) = T0 at *
      obtain ⟨T, rfl⟩ := Int.eq_ofNat_of_zero_le dT.1
      have hT : T ≤ k := by omega
      clear dT HC
      go_wp2_with fail
      refine CW.out.mono ?_
      rintro e v2 ⟨rfl, rfl⟩
      clear CW
      go_upto_region 14 with fail
      have hF := (MapKept.heap_alloc wr (.cells #[.func (.func 32) #[] #[]] 74)).1
      have hbl := allocB (w := wr) (.cells #[.func (.func 32) #[] #[]] 74)
      obtain ⟨v3, hv3⟩ : ∃ v, wr.alloc (.cells #[.func (.func 32) #[] #[]] 74) = v := ⟨_, rfl⟩
      rw [hv3] at hF hbl ⊢
      obtain ⟨F, hFF⟩ : ∃ F, wr.heap.size = F := ⟨_, rfl⟩
      rw [hFF] at hF ⊢
      have HF := Lib.hid hF
      replace HB0 := Lib.hid (below_on HB0.out hbl)
      replace HTQ := Lib.hid (HTQ.out.below hbl)
      clear hF hbl hv3 hFF
      have HKA : Hid (keyOk (Q.take T)) := Lib.hid (fun y hy => HKQ.out y (List.mem_of_mem_take hy))
      have HKB : Hid (keyOk (Q.drop T)) := Lib.hid (fun y hy => HKQ.out y (List.mem_of_mem_drop hy))
      go_wp2_with fail
      refine (fill_any p k c F Q _ _ HTQ.out (by omega) HKQ.out HF.out).mono ?_
      rintro e w5 ⟨e1, e2, oa, oc, e4, oL, oC, e5, rfl, hH, hb⟩
      obtain ⟨oq1, om1, od1, rfl⟩ := own_slice hH.b
      obtain ⟨oq2, om2, od2, rfl⟩ := own_slice hH.f
      obtain ⟨oq4, om4, od4, rfl⟩ := own_slice hH.r
      obtain ⟨oq5, om5, od5, rfl⟩ := own_slice hH.c
      unfold fiveV
      have hS := Sit.new hH
      have hbl := below_on hb (allocB (.cells #[.int .i64 5, (.slice oq1 om1 od1), .int .i64 100, .int .i64 3, (.slice oq2 om2 od2), .int .i64 7, .slice oa 2 oc, (.slice oq4 om4 od4), .int .i64 4, .int .i64 oL, (.slice oq5 om5 od5)] 71))
      go_upto_region 16 with fail
      obtain ⟨w6, hw6⟩ : ∃ v, w5.alloc (.cells #[.int .i64 5, (.slice oq1 om1 od1), .int .i64 100, .int .i64 3, (.slice oq2 om2 od2), .int .i64 7, .slice oa 2 oc, (.slice oq4 om4 od4), .int .i64 4, .int .i64 oL, (.slice oq5 om5 od5)] 71) = v := ⟨_, rfl⟩
      rw [hw6] at hS hbl ⊢
      obtain ⟨Yo, hY⟩ : ∃ Y, w5.heap.size = Y := ⟨_, rfl⟩
      rw [hY] at hS ⊢
      replace HB0 := Lib.hid (below_on HB0.out hbl)
      replace HTQ := Lib.hid (HTQ.out.below hbl)
      replace HF := Lib.hid (kept_blk hbl HF.out)
      have SO := Lib.hid hS
      clear hH hb hbl hS hw6 hY
      have rT := run_upto 53 3 1 Try.underlying53 elem_intTS size_intTS p k c T (by omega)
      go_wp2_with fail
      clear rT
      refine (fill_any p T c F (Q.take T) _ _ (by rw [List.map_take]; exact HTQ.out.upto_ T hT) (by omega) HKA.out HF.out).mono ?_
      rintro e w5 ⟨e1, e2, aa, ac, e4, aL, aC, e5, rfl, hH, hb⟩
      obtain ⟨aq1, am1, ad1, rfl⟩ := own_slice hH.b
      obtain ⟨aq2, am2, ad2, rfl⟩ := own_slice hH.f
      obtain ⟨aq4, am4, ad4, rfl⟩ := own_slice hH.r
      obtain ⟨aq5, am5, ad5, rfl⟩ := own_slice hH.c
      unfold fiveV
      have hS := Sit.new hH
      have hbl := below_on hb (allocB (.cells #[.int .i64 5, (.slice aq1 am1 ad1), .int .i64 100, .int .i64 3, (.slice aq2 am2 ad2), .int .i64 7, .slice aa 2 ac, (.slice aq4 am4 ad4), .int .i64 4, .int .i64 aL, (.slice aq5 am5 ad5)] 71))
      go_upto_region 17 with fail
      obtain ⟨w6, hw6⟩ : ∃ v, w5.alloc (.cells #[.int .i64 5, (.slice aq1 am1 ad1), .int .i64 100, .int .i64 3, (.slice aq2 am2 ad2), .int .i64 7, .slice aa 2 ac, (.slice aq4 am4 ad4), .int .i64 4, .int .i64 aL, (.slice aq5 am5 ad5)] 71) = v := ⟨_, rfl⟩
      rw [hw6] at hS hbl ⊢
      obtain ⟨Ya, hY⟩ : ∃ Y, w5.heap.size = Y := ⟨_, rfl⟩
      rw [hY] at hS ⊢
      replace HB0 := Lib.hid (below_on HB0.out hbl)
      replace HTQ := Lib.hid (HTQ.out.below hbl)
      replace SO := Lib.hid (SO.out.below hbl)
      replace HF := Lib.hid (kept_blk hbl HF.out)
      have SA := Lib.hid hS
      clear hH hb hbl hS hw6 hY
      have rT := run_from 53 3 1 Try.underlying53 elem_intTS size_intTS p k c T hT
      go_wp2_with fail
      clear rT
      refine (fill_any (fromA p c T 1) (k - T) (c - T) F (Q.drop T) _ _ (by rw [List.map_drop]; exact HTQ.out.from_ T hT) (by omega) HKB.out HF.out).mono ?_
      rintro e w5 ⟨e1, e2, za, zc, e4, zL, zC, e5, rfl, hH, hb⟩
      obtain ⟨zq1, zm1, zd1, rfl⟩ := own_slice hH.b
      obtain ⟨zq2, zm2, zd2, rfl⟩ := own_slice hH.f
      obtain ⟨zq4, zm4, zd4, rfl⟩ := own_slice hH.r
      obtain ⟨zq5, zm5, zd5, rfl⟩ := own_slice hH.c
      unfold fiveV
      have hS := Sit.new hH
      have hbl := below_on hb (allocB (.cells #[.int .i64 5, (.slice zq1 zm1 zd1), .int .i64 100, .int .i64 3, (.slice zq2 zm2 zd2), .int .i64 7, .slice za 2 zc, (.slice zq4 zm4 zd4), .int .i64 4, .int .i64 zL, (.slice zq5 zm5 zd5)] 71))
      go_upto_region 18 with fail
      obtain ⟨w6, hw6⟩ : ∃ v, w5.alloc (.cells #[.int .i64 5, (.slice zq1 zm1 zd1), .int .i64 100, .int .i64 3, (.slice zq2 zm2 zd2), .int .i64 7, .slice za 2 zc, (.slice zq4 zm4 zd4), .int .i64 4, .int .i64 zL, (.slice zq5 zm5 zd5)] 71) = v := ⟨_, rfl⟩
      rw [hw6] at hS hbl ⊢
      obtain ⟨Yz, hY⟩ : ∃ Y, w5.heap.size = Y := ⟨_, rfl⟩
      rw [hY] at hS ⊢
      replace HB0 := Lib.hid (below_on HB0.out hbl)
      replace HTQ := Lib.hid (HTQ.out.below hbl)
      replace SO := Lib.hid (SO.out.below hbl)
      replace SA := Lib.hid (SA.out.below hbl)
      replace HF := Lib.hid (kept_blk hbl HF.out)
      have SB := Lib.hid hS
      clear hH hb hbl hS hw6 hY
      clear HF
      have HQ60 : Hid ((Q.take T ++ Q.drop T).length ≤ 60) := Lib.hid (by rw [List.take_append_drop, HQL.out]; exact hn60)
      obtain ⟨x0, x1, x2, x3, x4, x5, x6, x7, x8, x9, x10⟩ := all_cells SB.out.box
      obtain ⟨y0, y1, y2, y3, y4, y5, y6, y7, y8, y9, y10⟩ := all_cells SA.out.box
      go_wp2_with fail
      clear x0 x1 x2 x3 x4 x5 x6 x7 x8 x9 x10 y0 y1 y2 y3 y4 y5 y6 y7 y8 y9 y10
      refine (joinB_any SB.out.hold.b SA.out.hold.b HKB.out HKA.out).mono ?_
      rintro e w5 ⟨u, rfl, hO, hb⟩
      rw [List.take_append_drop] at hO
      obtain ⟨jq1, jm1, jd1, rfl⟩ := own_slice hO
      have hS := Put1.new (cs := #[.int .i64 5, .slice jq1 jm1 jd1]) (t := 69) hO
      have hbl := below_on hb (allocB (.cells #[.int .i64 5, .slice jq1 jm1 jd1] 69))
      go_upto_region 21 with fail
      obtain ⟨w6, hw6⟩ : ∃ v, w5.alloc (.cells #[.int .i64 5, .slice jq1 jm1 jd1] 69) = v := ⟨_, rfl⟩
      rw [hw6] at hS hbl ⊢
      obtain ⟨J1, hY⟩ : ∃ Y, w5.heap.size = Y := ⟨_, rfl⟩
      rw [hY] at hS ⊢
      replace HB0 := Lib.hid (below_on HB0.out hbl)
      replace HTQ := Lib.hid (HTQ.out.below hbl)
      replace SO := Lib.hid (SO.out.below hbl)
      replace SA := Lib.hid (SA.out.below hbl)
      replace SB := Lib.hid (SB.out.below hbl)
      have PB := Lib.hid hS
      clear hO hb hbl hS hw6 hY
      obtain ⟨x0, x1, x2, x3, x4, x5, x6, x7, x8, x9, x10⟩ := all_cells SB.out.box
      obtain ⟨y0, y1, y2, y3, y4, y5, y6, y7, y8, y9, y10⟩ := all_cells SA.out.box
      go_wp2_with fail
      clear x0 x1 x2 x3 x4 x5 x6 x7 x8 x9 x10 y0 y1 y2 y3 y4 y5 y6 y7 y8 y9 y10
      refine (joinF_any SB.out.hold.f SA.out.hold.f).mono ?_
      rintro e w5 ⟨u, rfl, hO, hb⟩
      rw [List.take_append_drop] at hO
      obtain ⟨jq2, jm2, jd2, rfl⟩ := own_slice hO
      have hS := Put1.new (cs := #[.int .i64 100, .int .i64 3, .slice jq2 jm2 jd2]) (t := 24) hO
      have hbl := below_on hb (allocB (.cells #[.int .i64 100, .int .i64 3, .slice jq2 jm2 jd2] 24))
      go_upto_region 22 with fail
      obtain ⟨w6, hw6⟩ : ∃ v, w5.alloc (.cells #[.int .i64 100, .int .i64 3, .slice jq2 jm2 jd2] 24) = v := ⟨_, rfl⟩
      rw [hw6] at hS hbl ⊢
      obtain ⟨J2, hY⟩ : ∃ Y, w5.heap.size = Y := ⟨_, rfl⟩
      rw [hY] at hS ⊢
      replace HB0 := Lib.hid (below_on HB0.out hbl)
      replace HTQ := Lib.hid (HTQ.out.below hbl)
      replace SO := Lib.hid (SO.out.below hbl)
      replace SA := Lib.hid (SA.out.below hbl)
      replace SB := Lib.hid (SB.out.below hbl)
      replace PB := Lib.hid (PB.out.below hbl)
      have PF := Lib.hid hS
      clear hO hb hbl hS hw6 hY
      obtain ⟨x0, x1, x2, x3, x4, x5, x6, x7, x8, x9, x10⟩ := all_cells SB.out.box
      obtain ⟨y0, y1, y2, y3, y4, y5, y6, y7, y8, y9, y10⟩ := all_cells SA.out.box
      go_wp2_with fail
      clear x0 x1 x2 x3 x4 x5 x6 x7 x8 x9 x10 y0 y1 y2 y3 y4 y5 y6 y7 y8 y9 y10
      refine (joinT_any SB.out.hold.t SA.out.hold.t HQ60.out).mono ?_
      rintro e w5 ⟨ja, jc, rfl, hO, hb⟩
      rw [List.take_append_drop] at hO
      have hS := PutT.new hO
      have hbl := below_on hb (allocB (.cells #[.int .i64 7, .slice ja 2 jc] 27))
      go_upto_region 23 with fail
      obtain ⟨w6, hw6⟩ : ∃ v, w5.alloc (.cells #[.int .i64 7, .slice ja 2 jc] 27) = v := ⟨_, rfl⟩
      rw [hw6] at hS hbl ⊢
      obtain ⟨J3, hY⟩ : ∃ Y, w5.heap.size = Y := ⟨_, rfl⟩
      rw [hY] at hS ⊢
      replace HB0 := Lib.hid (below_on HB0.out hbl)
      replace HTQ := Lib.hid (HTQ.out.below hbl)
      replace SO := Lib.hid (SO.out.below hbl)
      replace SA := Lib.hid (SA.out.below hbl)
      replace SB := Lib.hid (SB.out.below hbl)
      replace PB := Lib.hid (PB.out.below hbl)
      replace PF := Lib.hid (PF.out.below hbl)
      have PT := Lib.hid hS
      clear hO hb hbl hS hw6 hY
      obtain ⟨x0, x1, x2, x3, x4, x5, x6, x7, x8, x9, x10⟩ := all_cells SB.out.box
      obtain ⟨y0, y1, y2, y3, y4, y5, y6, y7, y8, y9, y10⟩ := all_cells SA.out.box
      go_wp2_with fail
      clear x0 x1 x2 x3 x4 x5 x6 x7 x8 x9 x10 y0 y1 y2 y3 y4 y5 y6 y7 y8 y9 y10
      refine (joinR_any SB.out.hold.r SA.out.hold.r).mono ?_
      rintro e w5 ⟨u, rfl, hO, hb⟩
      rw [List.take_append_drop] at hO
      obtain ⟨jq4, jm4, jd4, rfl⟩ := own_slice hO
      have hbl := hb
      have hS := hO.base_le (Nat.zero_le _)
      go_upto_region 24 with fail
      replace HB0 := Lib.hid (below_on HB0.out hbl)
      replace HTQ := Lib.hid (HTQ.out.below hbl)
      replace SO := Lib.hid (SO.out.below hbl)
      replace SA := Lib.hid (SA.out.below hbl)
      replace SB := Lib.hid (SB.out.below hbl)
      replace PB := Lib.hid (PB.out.below hbl)
      replace PF := Lib.hid (PF.out.below hbl)
      replace PT := Lib.hid (PT.out.below hbl)
      have PR := Lib.hid hS
      clear hO hb hbl hS
      obtain ⟨x0, x1, x2, x3, x4, x5, x6, x7, x8, x9, x10⟩ := all_cells SB.out.box
      obtain ⟨y0, y1, y2, y3, y4, y5, y6, y7, y8, y9, y10⟩ := all_cells SA.out.box
      go_wp2_with fail
      clear x0 x1 x2 x3 x4 x5 x6 x7 x8 x9 x10 y0 y1 y2 y3 y4 y5 y6 y7 y8 y9 y10
      refine (joinC_any SB.out.hold.c SA.out.hold.c SB.out.hold.near SA.out.hold.near HQ60.out).mono ?_
      rintro e w5 ⟨jL, jC, u, rfl, hO, hN, hb⟩
      obtain ⟨jq5, jm5, jd5, rfl⟩ := own_slice hO
      have hS := Put1.new (cs := #[.int .i64 4, .int .i64 jL, .slice jq5 jm5 jd5]) (t := 30) hO
      have hbl := below_on hb (allocB (.cells #[.int .i64 4, .int .i64 jL, .slice jq5 jm5 jd5] 30))
      go_upto_region 25 with fail
      obtain ⟨w6, hw6⟩ : ∃ v, w5.alloc (.cells #[.int .i64 4, .int .i64 jL, .slice jq5 jm5 jd5] 30) = v := ⟨_, rfl⟩
      rw [hw6] at hS hbl ⊢
      obtain ⟨J5, hY⟩ : ∃ Y, w5.heap.size = Y := ⟨_, rfl⟩
      rw [hY] at hS ⊢
      replace HB0 := Lib.hid (below_on HB0.out hbl)
      replace HTQ := Lib.hid (HTQ.out.below hbl)
      replace SO := Lib.hid (SO.out.below hbl)
      replace SA := Lib.hid (SA.out.below hbl)
      replace SB := Lib.hid (SB.out.below hbl)
      replace PB := Lib.hid (PB.out.below hbl)
      replace PF := Lib.hid (PF.out.below hbl)
      replace PT := Lib.hid (PT.out.below hbl)
      replace PR := Lib.hid (PR.out.below hbl)
      have PC := Lib.hid hS
      have HN := Lib.hid hN
      clear hO hb hbl hS hw6 hY hN
      clear SA SB HKA HKB HQ60
      obtain ⟨x0, x1, x2, x3, x4, x5, x6, x7, x8, x9, x10⟩ := all_cells SO.out.box
      have y0 := cell_blk (i := 0) PB.out.box rfl
      have y1 := cell_blk (i := 1) PB.out.box rfl
      have y2 := cell_blk (i := 0) PF.out.box rfl
      have y3 := cell_blk (i := 1) PF.out.box rfl
      have y4 := cell_blk (i := 2) PF.out.box rfl
      have y5 := cell_blk (i := 0) PT.out.box rfl
      have y6 := cell_blk (i := 1) PT.out.box rfl
      have y7 := cell_blk (i := 0) PC.out.box rfl
      have y8 := cell_blk (i := 1) PC.out.box rfl
      have y9 := cell_blk (i := 2) PC.out.box rfl
      go_wp2_with fail
      clear x0 x1 x2 x3 x4 x5 x6 x7 x8 x9 x10 y0 y1 y2 y3 y4 y5 y6 y7 y8 y9
      refine (sameB_any 5 5 _ _ _ _ _ _ (bL Q) (bL Q) _ PB.out.own.tab_of SO.out.hold.b.tab_of true (by simp)).mono ?_
      rintro e w5 ⟨rfl, hbl⟩
      replace HB0 := Lib.hid (below_on HB0.out hbl)
      replace HTQ := Lib.hid (HTQ.out.below hbl)
      replace SO := Lib.hid (SO.out.below hbl)
      replace PB := Lib.hid (PB.out.below hbl)
      replace PF := Lib.hid (PF.out.below hbl)
      replace PT := Lib.hid (PT.out.below hbl)
      replace PR := Lib.hid (PR.out.below hbl)
      replace PC := Lib.hid (PC.out.below hbl)
      clear hbl
      obtain ⟨x0, x1, x2, x3, x4, x5, x6, x7, x8, x9, x10⟩ := all_cells SO.out.box
      have y0 := cell_blk (i := 0) PB.out.box rfl
      have y1 := cell_blk (i := 1) PB.out.box rfl
      have y2 := cell_blk (i := 0) PF.out.box rfl
      have y3 := cell_blk (i := 1) PF.out.box rfl
      have y4 := cell_blk (i := 2) PF.out.box rfl
      have y5 := cell_blk (i := 0) PT.out.box rfl
      have y6 := cell_blk (i := 1) PT.out.box rfl
      have y7 := cell_blk (i := 0) PC.out.box rfl
      have y8 := cell_blk (i := 1) PC.out.box rfl
      have y9 := cell_blk (i := 2) PC.out.box rfl
      go_wp2_with fail
      clear x0 x1 x2 x3 x4 x5 x6 x7 x8 x9 x10 y0 y1 y2 y3 y4 y5 y6 y7 y8 y9
      refine (sameF_any 100 3 100 3 _ _ _ _ _ _ (fB Q) (fB Q) _ PF.out.own.tab_of SO.out.hold.f.tab_of true (by simp)).mono ?_
      rintro e w5 ⟨rfl, hbl⟩
      replace HB0 := Lib.hid (below_on HB0.out hbl)
      replace HTQ := Lib.hid (HTQ.out.below hbl)
      replace SO := Lib.hid (SO.out.below hbl)
      replace PB := Lib.hid (PB.out.below hbl)
      replace PF := Lib.hid (PF.out.below hbl)
      replace PT := Lib.hid (PT.out.below hbl)
      replace PR := Lib.hid (PR.out.below hbl)
      replace PC := Lib.hid (PC.out.below hbl)
      clear hbl
      obtain ⟨x0, x1, x2, x3, x4, x5, x6, x7, x8, x9, x10⟩ := all_cells SO.out.box
      have y0 := cell_blk (i := 0) PB.out.box rfl
      have y1 := cell_blk (i := 1) PB.out.box rfl
      have y2 := cell_blk (i := 0) PF.out.box rfl
      have y3 := cell_blk (i := 1) PF.out.box rfl
      have y4 := cell_blk (i := 2) PF.out.box rfl
      have y5 := cell_blk (i := 0) PT.out.box rfl
      have y6 := cell_blk (i := 1) PT.out.box rfl
      have y7 := cell_blk (i := 0) PC.out.box rfl
      have y8 := cell_blk (i := 1) PC.out.box rfl
      have y9 := cell_blk (i := 2) PC.out.box rfl
      go_wp2_with fail
      clear x0 x1 x2 x3 x4 x5 x6 x7 x8 x9 x10 y0 y1 y2 y3 y4 y5 y6 y7 y8 y9
      refine (sameT_any 7 7 _ _ _ _ _ _ (fT Q) (fT Q) _ _ _ PT.out.tt SO.out.hold.t true (by simp)).mono ?_
      rintro e w5 ⟨rfl, hbl⟩
      replace HB0 := Lib.hid (below_on HB0.out hbl)
      replace HTQ := Lib.hid (HTQ.out.below hbl)
      replace SO := Lib.hid (SO.out.below hbl)
      replace PB := Lib.hid (PB.out.below hbl)
      replace PF := Lib.hid (PF.out.below hbl)
      replace PT := Lib.hid (PT.out.below hbl)
      replace PR := Lib.hid (PR.out.below hbl)
      replace PC := Lib.hid (PC.out.below hbl)
      clear hbl
      obtain ⟨x0, x1, x2, x3, x4, x5, x6, x7, x8, x9, x10⟩ := all_cells SO.out.box
      have y0 := cell_blk (i := 0) PB.out.box rfl
      have y1 := cell_blk (i := 1) PB.out.box rfl
      have y2 := cell_blk (i := 0) PF.out.box rfl
      have y3 := cell_blk (i := 1) PF.out.box rfl
      have y4 := cell_blk (i := 2) PF.out.box rfl
      have y5 := cell_blk (i := 0) PT.out.box rfl
      have y6 := cell_blk (i := 1) PT.out.box rfl
      have y7 := cell_blk (i := 0) PC.out.box rfl
      have y8 := cell_blk (i := 1) PC.out.box rfl
      have y9 := cell_blk (i := 2) PC.out.box rfl
      go_wp2_with fail
      clear x0 x1 x2 x3 x4 x5 x6 x7 x8 x9 x10 y0 y1 y2 y3 y4 y5 y6 y7 y8 y9
      refine (equal_ints _ _ _ _ _ _ (rL Q) (rL Q) _ PR.out.tab_of SO.out.hold.r.tab_of true (by simp)).mono ?_
      rintro e w5 ⟨rfl, hbl⟩
      replace HB0 := Lib.hid (below_on HB0.out hbl)
      replace HTQ := Lib.hid (HTQ.out.below hbl)
      replace SO := Lib.hid (SO.out.below hbl)
      replace PB := Lib.hid (PB.out.below hbl)
      replace PF := Lib.hid (PF.out.below hbl)
      replace PT := Lib.hid (PT.out.below hbl)
      replace PR := Lib.hid (PR.out.below hbl)
      replace PC := Lib.hid (PC.out.below hbl)
      clear hbl
      clear PB PR
      go_upto_region 27 with fail
      obtain ⟨v9, hv9⟩ : ∃ v, v = w5 := ⟨_, rfl⟩
      subst hv9
      go_wp2_with fail
      go_loopg [194] k (fun g i wr => ∃ j : Nat, j + g = k ∧ i = .int .i64 j ∧ Hid (Below v9.heap.size v9 wr))
      case atStart => exact ⟨0, by omega, rfl, Lib.hid (Below.refl _ _)⟩
      case round =>
        obtain ⟨j, hj0, rfl, HBr⟩ := hrel
        have HJ := Lib.hid hj0
        have hj : j ≤ k := by omega
        clear hj0
        by_cases hlt : j < k
        · obtain ⟨x, hx⟩ : ∃ x, Q[j]? = some x := ⟨_, List.getElem?_eq_getElem (by rw [HQL.out]; omega)⟩
          obtain ⟨b1, o1, ha, hbs, c0⟩ := HTQ.out.one HBr.out (map_get hx)
          have HX := Lib.hid (List.mem_of_getElem? hx)
          have hcq := c_ask (x := x) HN.out (by have := SO.out.hold.near; rw [← List.take_append_drop T Q] at this; exact this) (by rw [List.take_append_drop, HQL.out]; exact hn60)
          rw [List.take_append_drop] at hcq
          have AT := Lib.hid (fun (W : World) (hb : Below v9.heap.size v9 W) => askT_any x (PT.out.tt.below hb) (by rw [HQL.out]; exact hn60))
          have AC := Lib.hid (fun (W : World) (hb : Below v9.heap.size v9 W) => askC_any x (PC.out.own.below hb) HN.out)
          have AO := Lib.hid (fun (W : World) (hb : Below v9.heap.size v9 W) => askC_any x (SO.out.hold.c.below hb) SO.out.hold.near)
          have AF := Lib.hid (fun (W : World) (hb : Below v9.heap.size v9 W) => hasF_any (PF.out.own.below hb) HX.out)
          subst ha
          clear hx
          obtain ⟨lo, hlo⟩ : ∃ z, oft x jC = z := ⟨_, rfl⟩
          obtain ⟨pp, hpp⟩ : ∃ z, oft x oC = z := ⟨_, rfl⟩
          obtain ⟨nn, hnn⟩ : ∃ z, Tbl.askR 7 x (fT Q) = z := ⟨_, rfl⟩
          obtain ⟨hi, hhi⟩ : ∃ z, lo + jL = z := ⟨_, rfl⟩
          obtain ⟨qq, hqq⟩ : ∃ z, pp + oL = z := ⟨_, rfl⟩
          rw [hlo, hpp, hnn, hhi, hqq] at hcq
          rw [hlo, hhi] at AC
          rw [hpp, hqq] at AO
          rw [hnn] at AT
          clear hlo hpp hnn hhi hqq
          obtain ⟨k1, k2, k3, k4⟩ := hcq
          have g1 : decide (nn < lo) = false := by simp; omega
          have g2 : decide (nn < pp) = false := by simp; omega
          have g3 : decide (hi < pp) = false := by simp; omega
          have g4 : decide (qq < lo) = false := by simp; omega
          clear k1 k2 k3 k4
          obtain ⟨wq, hwq⟩ : ∃ v, v = wr := ⟨_, rfl⟩
          subst hwq
          obtain ⟨x0, x1, x2, x3, x4, x5, x6, x7, x8, x9, x10⟩ := all_cells (kept_blk HBr.out SO.out.box)
          have y2 := cell_blk (i := 0) (kept_blk HBr.out PF.out.box) rfl
          have y3 := cell_blk (i := 1) (kept_blk HBr.out PF.out.box) rfl
          have y4 := cell_blk (i := 2) (kept_blk HBr.out PF.out.box) rfl
          have y5 := cell_blk (i := 0) (kept_blk HBr.out PT.out.box) rfl
          have y6 := cell_blk (i := 1) (kept_blk HBr.out PT.out.box) rfl
          have y7 := cell_blk (i := 0) (kept_blk HBr.out PC.out.box) rfl
          have y8 := cell_blk (i := 1) (kept_blk HBr.out PC.out.box) rfl
          have y9 := cell_blk (i := 2) (kept_blk HBr.out PC.out.box) rfl
          go_wp2_with fail
          clear x0 x1 x2 x3 x4 x5 x6 x7 x8 x9 x10 y2 y3 y4 y5 y6 y7 y8 y9 c0
          refine (AT.out _ HBr.out).mono ?_
          rintro e w5 ⟨rfl, hb⟩
          replace HBr := Lib.hid (below_on HBr.out hb)
          clear hb
          obtain ⟨x0, x1, x2, x3, x4, x5, x6, x7, x8, x9, x10⟩ := all_cells (kept_blk HBr.out SO.out.box)
          have y2 := cell_blk (i := 0) (kept_blk HBr.out PF.out.box) rfl
          have y3 := cell_blk (i := 1) (kept_blk HBr.out PF.out.box) rfl
          have y4 := cell_blk (i := 2) (kept_blk HBr.out PF.out.box) rfl
          have y5 := cell_blk (i := 0) (kept_blk HBr.out PT.out.box) rfl
          have y6 := cell_blk (i := 1) (kept_blk HBr.out PT.out.box) rfl
          have y7 := cell_blk (i := 0) (kept_blk HBr.out PC.out.box) rfl
          have y8 := cell_blk (i := 1) (kept_blk HBr.out PC.out.box) rfl
          have y9 := cell_blk (i := 2) (kept_blk HBr.out PC.out.box) rfl
          go_wp2_with fail
          clear x0 x1 x2 x3 x4 x5 x6 x7 x8 x9 x10 y2 y3 y4 y5 y6 y7 y8 y9
          refine (AC.out _ HBr.out).mono ?_
          rintro e w5 ⟨rfl, hb⟩
          replace HBr := Lib.hid (below_on HBr.out hb)
          clear hb
          obtain ⟨x0, x1, x2, x3, x4, x5, x6, x7, x8, x9, x10⟩ := all_cells (kept_blk HBr.out SO.out.box)
          have y2 := cell_blk (i := 0) (kept_blk HBr.out PF.out.box) rfl
          have y3 := cell_blk (i := 1) (kept_blk HBr.out PF.out.box) rfl
          have y4 := cell_blk (i := 2) (kept_blk HBr.out PF.out.box) rfl
          have y5 := cell_blk (i := 0) (kept_blk HBr.out PT.out.box) rfl
          have y6 := cell_blk (i := 1) (kept_blk HBr.out PT.out.box) rfl
          have y7 := cell_blk (i := 0) (kept_blk HBr.out PC.out.box) rfl
          have y8 := cell_blk (i := 1) (kept_blk HBr.out PC.out.box) rfl
          have y9 := cell_blk (i := 2) (kept_blk HBr.out PC.out.box) rfl
          go_wp2_with fail
          clear x0 x1 x2 x3 x4 x5 x6 x7 x8 x9 x10 y2 y3 y4 y5 y6 y7 y8 y9
          refine (AO.out _ HBr.out).mono ?_
          rintro e w5 ⟨rfl, hb⟩
          replace HBr := Lib.hid (below_on HBr.out hb)
          clear hb
          obtain ⟨x0, x1, x2, x3, x4, x5, x6, x7, x8, x9, x10⟩ := all_cells (kept_blk HBr.out SO.out.box)
          have y2 := cell_blk (i := 0) (kept_blk HBr.out PF.out.box) rfl
          have y3 := cell_blk (i := 1) (kept_blk HBr.out PF.out.box) rfl
          have y4 := cell_blk (i := 2) (kept_blk HBr.out PF.out.box) rfl
          have y5 := cell_blk (i := 0) (kept_blk HBr.out PT.out.box) rfl
          have y6 := cell_blk (i := 1) (kept_blk HBr.out PT.out.box) rfl
          have y7 := cell_blk (i := 0) (kept_blk HBr.out PC.out.box) rfl
          have y8 := cell_blk (i := 1) (kept_blk HBr.out PC.out.box) rfl
          have y9 := cell_blk (i := 2) (kept_blk HBr.out PC.out.box) rfl
          go_wp2_with fail
          clear x0 x1 x2 x3 x4 x5 x6 x7 x8 x9 x10 y2 y3 y4 y5 y6 y7 y8 y9
          refine (AF.out _ HBr.out).mono ?_
          rintro e w5 ⟨rfl, hb⟩
          replace HBr := Lib.hid (below_on HBr.out hb)
          clear hb
          go_wp2_with fail
          go_roundg (k - (j + 1))
          case measure => have := HJ.out; omega
          case rel => exact ⟨j + 1, by omega, by go_num, HBr⟩
        · obtain rfl : j = k := by omega
          go_wp2_with fail
          go_ret
          exact ⟨rfl, below_on HB0.out HBr.out⟩

set_option maxRecDepth 100000 in
theorem lifted (os : Os) (started : os.Started) (H : Type) (enc : TypeId × Value → H) :
    ReturnsInHanded {} Try.checked os 4 .any (Rows.topSketchesSpec.pre6 enc Try.prog Try.f4 Rows.topSketchesRow.domain false) (Rows.topSketchesSpec.post enc Try.prog Try.f4 false true false false) := by
  refine returnsInHanded_of_change_sized (C := Try.checked) own started (by kernel_rfl) Try.func4
    (ChangeSpec.witness6 (enc := enc) (C := Try.checked) false ⟨#[], #[.slice none 0 0, .int .i64 0], []⟩ 8 (by kernel_rfl) (by kernel_rfl) (by kernel_rfl) (by kernel_rfl)) ?_
  intro W base args ds gs before hval0 hW hcnd hsz0 _
  have hval : ∀ (j : Nat) t v, Try.f4.params[j]? = some t → args[j]? = some v → Value.okWide Try.prog W .any base t v := hval0
  have hW' := hW
  obtain ⟨p, q, hA0, hV, rfl, hfz, hnd⟩ := hW
  have hA : DataW.TrodAll enc Try.prog W 0 (fun _ => true) true Try.f4.params.toList args.toList ds p := hA0
  have hsz : (DataW.weightsEach Try.prog (Try.f4.params.toList ++ Rows.topSketchesSpec.plain.varTypes Try.prog) (ds ++ gs)).all (· ≤ reachBytes) = true := hsz0
  rw [Try.params4] at hA hval hsz
  obtain ⟨v0, vs0, d0, ds0, p0, q0, hargs, rfl, rfl, h0, r0⟩ := trodAll_cons hA
  obtain ⟨v1, vs1, d1, ds1, p1, q1, rfl, rfl, rfl, h1, r1⟩ := trodAll_cons r0
  obtain ⟨rfl, rfl, rfl⟩ := trodAll_nil r1
  obtain rfl : args = #[v0, v1] := by cases args; simp_all
  obtain ⟨rfl, rfl⟩ := trodVars_none hV
  have k0 := h0
  have L0 := light_of hsz (j := 0) (t := 63) (d := d0) rfl rfl
  have lt0 : ∀ x ∈ p0, x.block < W.heap.size := by obtain ⟨m, hm⟩ := k0; exact DataW.trod_lt m _ _ _ hm
  obtain ⟨a0, len0, cap0, rfl⟩ := okWide_slice Try.underlying63 (hval 0 63 v0 rfl rfl)
  obtain ⟨n0, f0⟩ := trod_slice_of Try.underlying63 h0
  have F0 := And.intro f0 L0
  obtain ⟨x0, e0, t0, b0, o0⟩ := el_slice (w := W) (k := 1) sC wfS (by decide) Try.underlying63 (by kernel_rfl) (el_str Try.underlying9) (B := 16) (by kernel_rfl) _ _ _ F0.1 F0.2
  simp only [slC, List.cons.injEq, Value.slice.injEq, and_true] at e0
  obtain ⟨rfl, rfl, rfl⟩ := e0
  have k1 := h1
  have L1 := light_of hsz (j := 1) (t := 3) (d := d1) rfl rfl
  have lt1 : ∀ x ∈ p1, x.block < W.heap.size := by obtain ⟨m, hm⟩ := k1; exact DataW.trod_lt m _ _ _ hm
  obtain ⟨x1, rfl, rfl, rfl, w1⟩ := open_int Try.underlying3 (hval 1 3 v1 rfl rfl) h1
  clear hA0 hval0
  refine (walk x0 x1 W t0 b0 o0 w1).mono fun e W' ⟨he, hg⟩ => ?_
  subst he
  exact ⟨_, rfl, _, _, _, [], _, [], hW', trodAll_mk1 (shut_bool Try.underlying4 _), (trodAll_cons_mk (Below.trod laidOut (by kernel_rfl) (of_decide_eq_true (by kernel_rfl)) k0 hg lt0) (trodAll_cons_mk (Below.trod laidOut (by kernel_rfl) (of_decide_eq_true (by kernel_rfl)) k1 hg lt1) trodAll_mk0)), rfl, hg.frame _, fun h => by cases h⟩

theorem over : Rows.topSketchesRow.holds Try.pinned (OpenSpec.ofChange Rows.topSketchesSpec) :=
  OpenClaim.holds_of_wide 4 Try.f4 rfl rfl rfl rfl rfl rfl rfl ⟨rfl, rfl, rfl, rfl, rfl⟩ rfl rfl rfl rfl rfl (by kernel_rfl) Try.func4 (by kernel_rfl)
    (of_decide_eq_true (by kernel_rfl)) (by unfold Func.isWrapper; first | (rw [if_pos (by decide +kernel)]; kernel_rfl) | (rw [if_neg (by decide +kernel)]; exact ⟨rfl, rfl⟩))
    (fun os started H enc _ => lifted os started H enc)

/-- ████ THE STATEMENT ████ -/
theorem proved : Rows.TopSketchesSaid :=
  over
#print axioms proved
end Go.Proofs.Ytffgoekdjcempab.topSketches
