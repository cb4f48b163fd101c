/-
  'Rows.FewNearSaid' is proved (Misra, Gries): what is told of a key is at most how often it came, and falls short by at most Lost, which is at most all that came over K + 1. No condition.
-/
import Derived.Test.YtffgoekdjcempaaRows
import Derived.Test.YtffgoekdjcempaaShapes
import Derived.Test.YtffgoekdjcempaaFewHeard
import Derived.Test.YtffgoekdjcempaaFewAsk
import Derived.Test.YtffgoekdjcempaaRefFewSame
import Derived.Test.YtffgoekdjcempaaRefCounts
import Derived.Test.YtffgoekdjcempaaTabCame
import Derived.Test.YtffgoekdjcempaaWithin
import Derived.Test.YtffgoekdjcempaaLit
import Derived.Deep.DeepCutAuto
import Derived.Deep.LoopGhost
import Derived.BigQuiet
import Derived.Deep.QuietTactic
import Derived.WalkKit
import Derived.ProofKit
import Derived.OpenShut
import Derived.ShutString
import Derived.ChangeOld
import Derived.Below
namespace Go.Proofs.Ytffgoekdjcempaa.fewNear
open Go.ChangeShapes Go.WideShapes Go.ChangeAt Go.RowKit
open Go.ChangeMaps (open_string shut_string)
set_option linter.unusedVariables false

theorem own : ownKnob Try.prog.godebug = none := by kernel_rfl
theorem laidOut : laidOutB Try.prog = true := by kernel_rfl

--BEATS
open Few Came
theorem lit_put : Few.putE 1 0 [(5, 3)] 6 2 = 0 ∧ putZ 1 [(5, 3)] 6 2 = 2 ∧ putC 1 [(5, 3)] 6 2 = [(5, 1)] := by
  have hz : putZ 1 [(5, 3)] 6 2 = 2 := ex_two
  have hc : putC 1 [(5, 3)] 6 2 = [(5, 1)] := by unfold putC; rw [hz]; decide
  refine ⟨?_, hz, hc⟩
  unfold Few.putE
  rw [hz, hc]
  decide
theorem put_63 {a : Option Addr} {len cap : Nat} {w : World} (h : Tab w a len cap 2 ([((5 : Int), (3 : Int))].map iiC)) :
    Calls Try.prog 22 #[.agg #[.int .i64 1, .int .i64 0, .slice a len cap], .int .i64 6, .int .i64 2] w fun e w' => ∃ v, e = .returned (.tuple #[.agg #[.int .i64 1, .int .i64 2, v], .int .i64 0]) ∧ Own w' w.heap.size 43 2 v ([((5 : Int), (1 : Int))].map iiC) ∧ Below w.heap.size w w' := by
  refine (fewPut_any 1 0 a len cap [(5, 3)] 6 2 w h).mono ?_
  rintro e w' ⟨Kr, Lr, Cr, v, rfl, hO, hw, hb⟩
  rw [lit_put.1, lit_put.2.1, lit_put.2.2] at hO
  rw [lit_put.1]
  rcases hO with ⟨_, h4, h5, h6⟩ | ⟨h4, _⟩
  · subst h4 h5 h6
    exact ⟨v, rfl, hw, hb⟩
  · exact absurd rfl h4
theorem sumN_tot (C : List (Int × Int)) : sumN C = tot C := rfl
theorem came_wf {L : List (Sl Int)} (ho : ∀ z ∈ L, ∀ y ∈ z.l, wfI y) {most : Int} : ∀ p ∈ Came.of most ((L.take 60).map (fun s => s.l)), wfI p.1 := by
  intro p hp
  obtain ⟨c, hc, h1⟩ := List.mem_filterMap.1 hp
  obtain ⟨s, hs, rfl⟩ := List.mem_map.1 hc
  unfold Came.one at h1
  split at h1
  · rename_i k n hk hn
    simp only [Option.some.injEq] at h1
    subst h1
    exact ho s (List.mem_of_mem_take hs) k (List.mem_of_getElem? hk)
  · cases h1

set_option maxRecDepth 100000 in
set_option maxHeartbeats 12000000 in
theorem walk (x0 : Int) (x1 : Sl (Sl Int)) (x2 : Int) (w : World) (w0 : (Lit.int .i64 x0).wf = true) (t1 : Tab w x1.a x1.len x1.cap 1 (x1.l.map slC)) (b1 : x1.len * 24 ≤ 140737488351232) (o1 : ∀ z ∈ x1.l, (fun y : Sl Int => Tab w y.a y.len y.cap 1 (y.l.map iC) ∧ y.len * 8 ≤ 140737488351232 ∧ ∀ z ∈ y.l, wfI z) z) (w2 : (Lit.int .i64 x2).wf = true) :
    Calls Try.prog 4 #[.int .i64 x0, .slice x1.a x1.len x1.cap, .int .i64 x2] w fun e w' => e = .returned (.bool true) ∧ Below w.heap.size w w' := by
  obtain ⟨a, len, cap, S⟩ := x1
  simp only at t1 o1 b1
  generalize x2 = key at *
  have hb0 : Below w.heap.size w (w.alloc (.cells #[.int .i64 5, .int .i64 3] 43)) := (Below.refl _ _).alloc (Nat.le_refl _) _
  have C0 := Lib.hid (put_63 (tab_lit w 43 2 1 ([((5 : Int), (3 : Int))].map iiC) #[.int .i64 5, .int .i64 3] rfl rfl (rows_of iiC_len _) (by decide) _ rfl))
  have HB0 := Lib.hid hb0
  have hd := withI_bd x0 16 (by decide)
  have HWN := Lib.hid (fun W => within_int x0 16 W (wf_i64 w0) (by omega) (by omega))
  generalize withI x0 16 = u at *
  obtain ⟨K, hK⟩ : ∃ K, 1 + u = K := ⟨_, rfl⟩
  have hK1 : 1 ≤ K := by omega
  have hK2 : K ≤ 16 := by omega
  have HK := Lib.hid hK
  have hu0 := hd.1
  have hu1 := hd.2
  have HCM := Lib.hid (fun (W : World) (hb : Below w.heap.size w W) => came_any a len cap S 1000 W (t1.below hb) (fun z hz => ⟨((o1 z hz).1).below hb, (o1 z hz).2.2⟩) (by decide) (by decide))
  have hwf := came_wf (L := S) (fun z hz => (o1 z hz).2.2) (most := 1000)
  have hAb := of_bd (most := 1000) (by decide) (L := (S.take 60).map (fun s => s.l))
  have hAl : (Came.of 1000 ((S.take 60).map (fun s => s.l))).length ≤ 60 := Nat.le_trans (of_len _ _) (by rw [List.length_map, List.length_take]; omega)
  have hAs := sumN_bd (most := 1000) (by decide) hAb
  obtain ⟨A, hA⟩ : ∃ A, Came.of 1000 ((S.take 60).map (fun s => s.l)) = A := ⟨_, rfl⟩
  rw [hA] at HCM hAb hAl hAs hwf
  have HAb := Lib.hid hAb
  have HAl := Lib.hid hAl
  have HWF := Lib.hid hwf
  obtain ⟨T, hT⟩ : ∃ T, sumN A = T := ⟨_, rfl⟩
  rw [hT] at hAs HCM
  have HT := Lib.hid hT
  have hT0 : 0 ≤ T := hAs.1
  have hT1 : T ≤ 60000 := by have := hAs.2; omega
  have wk := wf_i64 w2
  have HWK := Lib.hid w2
  clear hb0 hd hK t1 o1 b1 hA hAb hAl hAs hT hwf w0 wk
  go_enter Try.func4, Try.ntmps4
  go_wp2_with fail
  refine C0.out.mono ?_
  rintro e v1 ⟨q1, rfl, hO, hb⟩
  obtain ⟨a1, c1, rfl, hTq⟩ := own_ctrs (n := 1) hO rfl
  have hz := FV.new (K := 1) (L := 2) hTq
  have HB1 := Lib.hid (below_on (below_on HB0.out hb) hz.2)
  obtain ⟨v2, hv2⟩ : ∃ v, v1.alloc (.cells #[.int .i64 1, .int .i64 2, .slice a1 1 c1] 39) = v := ⟨_, rfl⟩
  rw [hv2] at HB1 hz
  obtain ⟨Y, hY⟩ : ∃ Y, v1.heap.size = Y := ⟨_, rfl⟩
  rw [hY] at hz
  have SY := Lib.hid hz.1
  have HVX := Lib.hid (And.intro hv2 hY)
  clear hz hb hO hTq hv2 hY HB0 C0
  go_upto_region 2 with fail
  rw [HVX.out.1, HVX.out.2]
  clear HVX
  have hal : Below v2.heap.size v2 (v2.alloc (.cells #[.int .i64 5, .int .i64 1] 43)) := (Below.refl _ _).alloc (Nat.le_refl _) _
  have CE := Lib.hid (sameFew_any 1 1 2 2 a1 (some ⟨v2.heap.size, 0, none⟩) 1 c1 1 1 [(5, 1)] [(5, 1)] _ (SY.out.2.below hal) (tab_lit v2 43 2 1 ([((5 : Int), (1 : Int))].map iiC) #[.int .i64 5, .int .i64 1] rfl rfl (rows_of iiC_len _) (by decide) _ rfl) true (by simp))
  unfold fewV at CE
  obtain ⟨c0, d0, e0⟩ := SY.out.cells
  have HAL := Lib.hid hal
  clear hal
  go_wp2_with fail
  clear c0 d0 e0
  refine CE.out.mono ?_
  rintro e v3 ⟨rfl, hb⟩
  have HB3 := Lib.hid (below_on (below_on HB1.out HAL.out) hb)
  clear hb CE HAL HB1 SY
  go_wp2_with fail
  refine (HWN.out _).mono ?_
  rintro e v4 ⟨rfl, hv4⟩
  rw [← hv4]
  clear hv4 HWN
  go_upto_region 5 with fail
  rw [HK.out]
  go_wp2_with fail
  refine (HCM.out _ HB3.out).mono ?_
  rintro e v5 ⟨qA, rfl, hO, hb⟩
  obtain ⟨nA, hnA⟩ : ∃ n, A.length = n := ⟨_, rfl⟩
  obtain ⟨aA, cA, rfl, hTA⟩ := own_ctrs hO hnA
  have HNA := Lib.hid hnA
  have hn60 : nA ≤ 60 := by rw [← hnA]; exact HAl.out
  have HB5 := Lib.hid (below_on HB3.out hb)
  have TA := Lib.hid hTA
  have HH := Lib.hid (heard_any K aA nA cA A v5 hTA (by omega) hK1 hK2 (fun p hp => by have := HAb.out p hp; omega) (by rw [← sumN_tot, HT.out]; omega))
  clear hO hb hTA hnA HCM HB3
  go_wp2_with fail
  refine HH.out.mono ?_
  rintro e v6 ⟨L, C, q, rfl, hN, hO, hb⟩
  obtain ⟨nC, hnC⟩ : ∃ n, C.length = n := ⟨_, rfl⟩
  obtain ⟨aC, cC, rfl, hTC⟩ := own_ctrs hO hnC
  have hz := FV.new (K := K) (L := L) hTC
  have HB7 := Lib.hid (below_on (below_on HB5.out hb) hz.2)
  replace TA := Lib.hid ((TA.out.below hb).below hz.2)
  obtain ⟨v7, hv7⟩ : ∃ v, v6.alloc (.cells #[.int .i64 K, .int .i64 L, .slice aC nC cC] 39) = v := ⟨_, rfl⟩
  rw [hv7] at HB7 hz TA
  obtain ⟨F, hF⟩ : ∃ Y, v6.heap.size = Y := ⟨_, rfl⟩
  rw [hF] at hz
  have SF := Lib.hid hz.1
  have HVX := Lib.hid (And.intro hv7 hF)
  have HN := Lib.hid hN
  have hsum := hN.sum
  have hl1 := hN.good.l1
  have hl2 := hN.good.l2
  rw [← sumN_tot A, HT.out] at hsum
  have htp := (tot_pos (C := C) (fun c hc => by have := (hN.good.num c hc).1; omega)).1
  have hmul : L * (K + 1) ≤ T := by omega
  have hmul0 : 0 ≤ L * (K + 1) := Int.mul_nonneg hl1 (by omega)
  have HE := Lib.hid (fewE_zero.2 hN.good)
  clear hz hb hO hTC hv7 hF hN hnC HH hsum htp
  go_upto_region 7 with fail
  rw [HVX.out.1, HVX.out.2]
  clear HVX
  have CK := fewCheck_any K L aC nC cC C v7 SF.out.2
  rw [HE.out] at CK
  unfold fewV at CK
  replace CK := Lib.hid CK
  obtain ⟨P, hP⟩ : ∃ P, L * (K + 1) = P := ⟨_, rfl⟩
  rw [hP] at hmul hmul0
  have HP := Lib.hid hP
  have tP : decide (P > T) = false := decide_eq_false (by omega)
  obtain ⟨c0, d0, e0⟩ := SF.out.cells
  go_wp2_with fail
  clear c0 d0 e0
  refine CK.out.mono ?_
  rintro e v8 ⟨rfl, hb⟩
  have HB8 := Lib.hid (below_on HB7.out hb)
  replace SF := Lib.hid (SF.out.below hb)
  replace TA := Lib.hid (TA.out.below hb)
  clear hb CK HB7 HE hP HP tP hmul hmul0
  have HCo := Lib.hid (counts_any aA nA cA A v8 TA.out (by omega) (fun p hp => by have := HAb.out p hp; omega) HWF.out (by rw [HT.out]; omega))
  go_wp2_with fail
  refine HCo.out.mono ?_
  rintro e v9 ⟨mb, rfl, hmb, hM, hb⟩
  have HB9 := Lib.hid (below_on HB8.out hb)
  replace SF := Lib.hid (SF.out.below hb)
  replace TA := Lib.hid (TA.out.below hb)
  have HM := Lib.hid hM
  clear hb hM hmb HCo HB8
  have HCl := Lib.hid (clone_counters aA nA cA A v9 TA.out (by omega))
  go_wp2_with fail
  refine HCl.out.mono ?_
  rintro e v10 ⟨vc, rfl, hO, hb⟩
  have HB10 := Lib.hid (below_on HB9.out hb)
  have HS10 := Lib.hid hb.size
  have HO10 := Lib.hid hO
  have HB90 := Lib.hid hb
  have SF9 := SF
  have HM9 := HM
  clear hb hO HCl TA
  obtain ⟨nR, hnR⟩ : ∃ n, (A ++ [(key, 0)]).length = n := ⟨_, rfl⟩
  have HNR := Lib.hid hnR
  have hnR61 : nR ≤ 61 := by rw [← hnR, List.length_append]; simp; have := HNA.out; omega
  clear hnR
  go_wp2_with (at_builtin; refine wpList_append_rows _ rfl _ _ 37 rfl v9.heap.size 43 _ 2 16 Try.underlying37 info_counter rfl (by decide) _ (A.map iiC) rfl (HO10.out.alloc _) ⟨v10.heap.size, 0, none⟩ 1 1 [iiC (key, 0)] rfl rfl (by simp [iiC]) (one_row _ (iiC (key, 0)) 43 _ (by simp)) (by simp [iiC, Value.oneCell']) (by rw [List.length_map]; have := HNA.out; omega) (by decide) (by have := HS10.out; simp; omega) ?_; intro v' v11 hO2 hg2; have hO3 : Own v11 v9.heap.size 43 2 v' ((A ++ [(key, 0)]).map iiC) := (by rw [List.map_append]; exact hO2); obtain ⟨aR, cR, rfl, hTR⟩ := own_ctrs hO3 HNR.out)
  have hu9 := (HO10.out.alloc (.cells #[.int .i64 key, .int .i64 0] 43)).under (HB90.out.alloc HS10.out _) (Nat.le_refl _) (by have := HS10.out; simp; omega) hg2
  have TR := Lib.hid hTR
  have HB11 := Lib.hid (below_on HB9.out hu9)
  replace SF := Lib.hid (SF9.out.below hu9)
  replace HM := Lib.hid (HM9.out.below hu9)
  have HRW : Hid (∀ p ∈ A ++ [(key, 0)], wfI p.1) := Lib.hid (fun p hp => by
    rcases List.mem_append.1 hp with h | h
    · exact HWF.out p h
    · rw [List.mem_singleton.1 h]; exact HWK.out)
  generalize A ++ [(key, 0)] = R at *
  clear hO2 hO3 hg2 hu9 hTR HO10 HB10 HB90 SF9 HM9 HB9 HS10
  go_loopg [75] nR (fun g i wr => ∃ j : Nat, j + g = nR ∧ i = .int .i64 j ∧ Hid (Below v11.heap.size v11 wr))
  case atStart => exact ⟨0, by omega, rfl, Lib.hid (Below.refl _ _)⟩
  case round =>
    obtain ⟨j, hj0, rfl, HW⟩ := hrel
    have HJ := Lib.hid hj0
    have hj : j ≤ nR := by omega
    clear hj0
    have HBW := Lib.hid (below_on HB11.out HW.out)
    by_cases hlt : j < nR
    · obtain ⟨⟨x, m⟩, hx⟩ : ∃ x, R[j]? = some x := ⟨_, List.getElem?_eq_getElem (by rw [HNR.out]; exact hlt)⟩
      obtain ⟨b1, o1, ha, hbs, p0, p1⟩ := TR.out.two HW.out (map_get hx)
      have hwx := HRW.out _ (List.mem_of_getElem? hx)
      simp only at hwx
      have hal : Below wr.heap.size wr (wr.alloc (.cells #[.int .i64 x, .int .i64 m] 43)) := (Below.refl _ _).alloc (Nat.le_refl _) _
      have kc := (MapKept.heap_alloc wr (.cells #[.int .i64 x, .int .i64 m] 43)).1
      obtain ⟨w1, hw1⟩ : ∃ v, wr.alloc (.cells #[.int .i64 x, .int .i64 m] 43) = v := ⟨_, rfl⟩
      rw [hw1] at hal kc
      have SF1 := Lib.hid ((SF.out.below HW.out).below hal)
      have HM1 := Lib.hid ((HM.out.below HW.out).below hal)
      have CA := fewAsk_ok K L aC nC cC C x w1 SF1.out.2 HN.out.good
      unfold fewV at CA
      have hlow := HN.out.low x
      have hhigh := HN.out.high x
      have hz1 := oft_pos (C := C) (fun c hc => by have := (HN.out.good.num c hc).1; omega) x
      have hz2 := (oft_bd (z := x) (C := A) (fun p hp => by have := HAb.out p hp; omega)).2
      rw [HT.out] at hz2
      have hrev := oft_reverse x A
      obtain ⟨z, hz⟩ : ∃ z, oft x C = z := ⟨_, rfl⟩
      obtain ⟨y, hy⟩ : ∃ y, oft x A = y := ⟨_, rfl⟩
      rw [hz] at CA hlow hhigh hz1
      rw [hy] at hlow hhigh hz2 hrev
      have CA := Lib.hid CA
      have HREV := Lib.hid hrev
      have HWX := Lib.hid hwx
      have HBW1 := Lib.hid (below_on HBW.out hal)
      have HV1 := Lib.hid hw1
      have KC := Lib.hid kc
      have HW1 := Lib.hid (below_on HW.out hal)
      subst ha
      clear hx hwx hal kc hw1 hz hy hrev
      go_upto_region 13 with fail
      rw [HV1.out]
      obtain ⟨B, hB⟩ : ∃ Y, wr.heap.size = Y := ⟨_, rfl⟩
      rw [hB] at KC ⊢
      clear HV1 hB p0 p1
      obtain ⟨e0, e1⟩ := pair_cells KC.out
      obtain ⟨f0, f1, f2⟩ := SF1.out.cells
      go_wp2_with fail
      clear e0 e1 f0 f1 f2
      refine CA.out.mono ?_
      rintro e w2 ⟨rfl, hb⟩
      have KC2 := Lib.hid (kept_blk hb KC.out)
      have HM2 := Lib.hid (HM1.out.below hb)
      have HB2 := Lib.hid (below_on HBW1.out hb)
      have HW2 := Lib.hid (below_on HW1.out hb)
      have hlook := HM2.out.look lawRC Try.underlying50 Try.underlying3 (zeroRC _) (Maps.keyOf_int_mk (P := Try.prog) Try.underlying3 HWX.out)
      rw [HREV.out] at hlook
      obtain ⟨e0, e1⟩ := pair_cells KC2.out
      have t1 : decide (z > y) = false := decide_eq_false (by omega)
      have t2 : decide (z + L < y) = false := decide_eq_false (by omega)
      clear hb KC CA HM1 SF1
      go_wp2_with fail
      go_roundg (nR - (j + 1))
      case measure => have := HJ.out; omega
      case rel => exact ⟨j + 1, by omega, by go_num, HW2⟩
    · obtain rfl : j = nR := by omega
      go_wp2
      go_ret
      exact ⟨rfl, HBW.out⟩

set_option maxRecDepth 100000 in
theorem lifted (os : Os) (started : os.Started) (H : Type) (enc : TypeId × Value → H) :
    ReturnsInHanded {} Try.checked os 4 .any (Rows.fewNearSpec.pre6 enc Try.prog Try.f4 Rows.fewNearRow.domain false) (Rows.fewNearSpec.post enc Try.prog Try.f4 false true false false) := by
  refine returnsInHanded_of_change_sized (C := Try.checked) own started (by kernel_rfl) Try.func4
    (ChangeSpec.witness6 (enc := enc) (C := Try.checked) false ⟨#[], #[.int .i64 0, .slice none 0 0, .int .i64 0], []⟩ 8 (by kernel_rfl) (by kernel_rfl) (by kernel_rfl) (by kernel_rfl)) ?_
  intro W base args ds gs before hval0 hW hcnd hsz0 _
  have hval : ∀ (j : Nat) t v, Try.f4.params[j]? = some t → args[j]? = some v → Value.okWide Try.prog W .any base t v := hval0
  have hW' := hW
  obtain ⟨p, q, hA0, hV, rfl, hfz, hnd⟩ := hW
  have hA : DataW.TrodAll enc Try.prog W 0 (fun _ => true) true Try.f4.params.toList args.toList ds p := hA0
  have hsz : (DataW.weightsEach Try.prog (Try.f4.params.toList ++ Rows.fewNearSpec.plain.varTypes Try.prog) (ds ++ gs)).all (· ≤ reachBytes) = true := hsz0
  rw [Try.params4] at hA hval hsz
  obtain ⟨v0, vs0, d0, ds0, p0, q0, hargs, rfl, rfl, h0, r0⟩ := trodAll_cons hA
  obtain ⟨v1, vs1, d1, ds1, p1, q1, rfl, rfl, rfl, h1, r1⟩ := trodAll_cons r0
  obtain ⟨v2, vs2, d2, ds2, p2, q2, rfl, rfl, rfl, h2, r2⟩ := trodAll_cons r1
  obtain ⟨rfl, rfl, rfl⟩ := trodAll_nil r2
  obtain rfl : args = #[v0, v1, v2] := by cases args; simp_all
  obtain ⟨rfl, rfl⟩ := trodVars_none hV
  have k0 := h0
  have L0 := light_of hsz (j := 0) (t := 3) (d := d0) rfl rfl
  have lt0 : ∀ x ∈ p0, x.block < W.heap.size := by obtain ⟨m, hm⟩ := k0; exact DataW.trod_lt m _ _ _ hm
  obtain ⟨x0, rfl, rfl, rfl, w0⟩ := open_int Try.underlying3 (hval 0 3 v0 rfl rfl) h0
  have k1 := h1
  have L1 := light_of hsz (j := 1) (t := 36) (d := d1) rfl rfl
  have lt1 : ∀ x ∈ p1, x.block < W.heap.size := by obtain ⟨m, hm⟩ := k1; exact DataW.trod_lt m _ _ _ hm
  obtain ⟨a1, len1, cap1, rfl⟩ := okWide_slice Try.underlying36 (hval 1 36 v1 rfl rfl)
  obtain ⟨n1, f1⟩ := trod_slice_of Try.underlying36 h1
  have F1 := And.intro f1 L1
  obtain ⟨x1, e1, t1, b1, o1⟩ := el_slice (w := W) (k := 1) slC (fun y : Sl Int => Tab W y.a y.len y.cap 1 (y.l.map iC) ∧ y.len * 8 ≤ 140737488351232 ∧ ∀ z ∈ y.l, wfI z) (by decide) Try.underlying36 (by kernel_rfl) (el_slice (k := 1) iC wfI (by decide) Try.underlying22 (by kernel_rfl) (el_int Try.underlying3) (B := 8) (by kernel_rfl)) (B := 24) (by kernel_rfl) _ _ _ F1.1 F1.2
  simp only [slC, List.cons.injEq, Value.slice.injEq, and_true] at e1
  obtain ⟨rfl, rfl, rfl⟩ := e1
  have k2 := h2
  have L2 := light_of hsz (j := 2) (t := 3) (d := d2) rfl rfl
  have lt2 : ∀ x ∈ p2, x.block < W.heap.size := by obtain ⟨m, hm⟩ := k2; exact DataW.trod_lt m _ _ _ hm
  obtain ⟨x2, rfl, rfl, rfl, w2⟩ := open_int Try.underlying3 (hval 2 3 v2 rfl rfl) h2
  clear hA0 hval0
  refine (walk x0 x1 x2 W w0 t1 b1 o1 w2).mono fun e W' ⟨he, hg⟩ => ?_
  subst he
  exact ⟨_, rfl, _, _, _, [], _, [], hW', trodAll_mk1 (shut_bool Try.underlying4 _), (trodAll_cons_mk (Below.trod laidOut (by kernel_rfl) (of_decide_eq_true (by kernel_rfl)) k0 hg lt0) (trodAll_cons_mk (Below.trod laidOut (by kernel_rfl) (of_decide_eq_true (by kernel_rfl)) k1 hg lt1) (trodAll_cons_mk (Below.trod laidOut (by kernel_rfl) (of_decide_eq_true (by kernel_rfl)) k2 hg lt2) trodAll_mk0))), rfl, hg.frame _, fun h => by cases h⟩

theorem over : Rows.fewNearRow.holds Try.pinned (OpenSpec.ofChange Rows.fewNearSpec) :=
  OpenClaim.holds_of_wide 4 Try.f4 rfl rfl rfl rfl rfl rfl rfl ⟨rfl, rfl, rfl, rfl, rfl⟩ rfl rfl rfl rfl rfl (by kernel_rfl) Try.func4 (by kernel_rfl)
    (of_decide_eq_true (by kernel_rfl)) (by unfold Func.isWrapper; first | (rw [if_pos (by decide +kernel)]; kernel_rfl) | (rw [if_neg (by decide +kernel)]; exact ⟨rfl, rfl⟩))
    (fun os started H enc _ => lifted os started H enc)

/-- ████ THE STATEMENT ████ -/
theorem proved : Rows.FewNearSaid :=
  over
#print axioms proved
end Go.Proofs.Ytffgoekdjcempaa.fewNear
