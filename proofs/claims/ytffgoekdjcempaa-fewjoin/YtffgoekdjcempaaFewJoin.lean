/-
  'Rows.FewJoinSaid' is proved (Agarwal et al.): a joined sketch satisfies the same bounds as one to which all came, in whichever order the two are joined. No condition.
-/
import Derived.Test.YtffgoekdjcempaaRows
import Derived.Test.YtffgoekdjcempaaShapes
import Derived.Test.YtffgoekdjcempaaFewJoinP
import Derived.Test.YtffgoekdjcempaaFewHeard
import Derived.Test.YtffgoekdjcempaaFewAsk
import Derived.Test.YtffgoekdjcempaaRefFewSame
import Derived.Test.YtffgoekdjcempaaRefCounts
import Derived.Test.YtffgoekdjcempaaTabCame
import Derived.Test.YtffgoekdjcempaaConcatCounters
import Derived.Test.YtffgoekdjcempaaWithin
import Derived.Test.YtffgoekdjcempaaLit
import Derived.Deep.DeepCutAuto
import Derived.Deep.LoopGhost
import Derived.BigQuiet
import Derived.Deep.QuietTactic
import Derived.WalkKit
import Derived.ProofKit
import Derived.OpenShut
import Derived.ShutString
import Derived.ChangeOld
import Derived.Below
namespace Go.Proofs.Ytffgoekdjcempaa.fewJoin
open Go.ChangeShapes Go.WideShapes Go.ChangeAt Go.RowKit
open Go.ChangeMaps (open_string shut_string)
set_option linter.unusedVariables false

theorem own : ownKnob Try.prog.godebug = none := by kernel_rfl
theorem laidOut : laidOutB Try.prog = true := by kernel_rfl

--BEATS
open Few Came
theorem lit_join : Few.joinE 1 0 [(5, 3)] 1 0 [(6, 2)] = 0 ∧ joinZ 1 [(5, 3)] [(6, 2)] = 2 ∧ joinC 1 [(5, 3)] [(6, 2)] = [(5, 1)] := by
  have hz : joinZ 1 [(5, 3)] [(6, 2)] = 2 := ex_two
  have hc : joinC 1 [(5, 3)] [(6, 2)] = [(5, 1)] := by unfold joinC; rw [hz]; decide
  refine ⟨?_, hz, hc⟩
  unfold Few.joinE
  rw [hz, hc]
  decide
theorem join_56 {a b : Option Addr} {la ca lb cb : Nat} {w : World} (h : Tab w a la ca 2 ([((5 : Int), (3 : Int))].map iiC)) (g : Tab w b lb cb 2 ([((6 : Int), (2 : Int))].map iiC)) :
    Calls Try.prog 33 #[.agg #[.int .i64 1, .int .i64 0, .slice a la ca], .agg #[.int .i64 1, .int .i64 0, .slice b lb cb]] w fun e w' => ∃ v, e = .returned (.tuple #[.agg #[.int .i64 1, .int .i64 2, v], .int .i64 0]) ∧ Own w' w.heap.size 43 2 v ([((5 : Int), (1 : Int))].map iiC) ∧ Below w.heap.size w w' := by
  refine (fewJoin_any 1 0 a la ca [(5, 3)] 1 0 b lb cb [(6, 2)] w h g).mono ?_
  rintro e w' ⟨Kr, Lr, Cr, v, rfl, hO, hw, hb⟩
  rw [lit_join.1, lit_join.2.1, lit_join.2.2] at hO
  rw [lit_join.1]
  rcases hO with ⟨_, h4, h5, h6⟩ | ⟨h4, _⟩
  · subst h4 h5 h6
    exact ⟨v, rfl, hw, hb⟩
  · exact absurd rfl h4
/-- two sketches of all that came, joined -/
theorem join_near {K L M : Int} {A B C D : List (Int × Int)} {a b : Option Addr} {la ca lb cb : Nat} {w : World} (h : Tab w a la ca 2 (C.map iiC)) (g : Tab w b lb cb 2 (D.map iiC)) (hN : Near K A L C) (gN : Near K B M D) (hA : tot A + tot B ≤ 1000000000000) :
    Calls Try.prog 33 #[.agg #[.int .i64 K, .int .i64 L, .slice a la ca], .agg #[.int .i64 K, .int .i64 M, .slice b lb cb]] w fun e w' => ∃ v, e = .returned (.tuple #[.agg #[.int .i64 K, .int .i64 (L + M + joinZ K C D), v], .int .i64 0]) ∧ Own w' w.heap.size 43 2 v ((joinC K C D).map iiC) ∧ Below w.heap.size w w' := by
  have hj := near_join hN gN hA
  have hE : Few.joinE K L C K M D = 0 := by
    unfold Few.joinE
    rw [if_neg (by rw [fewE_zero.2 hN.good]; decide), if_neg (by rw [fewE_zero.2 gN.good]; decide), if_neg (by simp)]
    exact setE_good hj.good
  refine (fewJoin_any K L a la ca C K M b lb cb D w h g).mono ?_
  rintro e w' ⟨Kr, Lr, Cr, v, rfl, hO, hw, hb⟩
  rw [hE] at hO ⊢
  rcases hO with ⟨_, h4, h5, h6⟩ | ⟨h4, _⟩
  · subst h4 h5 h6
    exact ⟨v, rfl, hw, hb⟩
  · exact absurd rfl h4
theorem joinZ_turned {K : Int} {C D : List (Int × Int)} {L M : Int} (hC : Few.Good K L C) (hD : Few.Good K M D) : joinZ K D C = joinZ K C D ∧ joinC K D C = joinC K C D := by
  have e : addAll D C = addAll C D := add_turned hD.ord hC.ord (fun c hc => (hD.num c hc).1) (fun c hc => (hC.num c hc).1)
  have ez : joinZ K D C = joinZ K C D := by unfold joinZ; rw [e]
  exact ⟨ez, by unfold joinC; rw [ez, e]⟩
theorem box_kept {w : World} {X Y : Nat} {o : Obj} {a b : Int} {v : Value} (h : w.heap[X]? = some o) (hne : X ≠ Y) : (((w.setCell ⟨Y, 0, none⟩ (.int .i64 a)).setCell ⟨Y, 1, none⟩ (.int .i64 b)).setCell ⟨Y, 2, none⟩ v).heap[X]? = some o := by
  rw [Below.heap_setCell _ _ _ _ (show X ≠ Y from hne), Below.heap_setCell _ _ _ _ (show X ≠ Y from hne), Below.heap_setCell _ _ _ _ (show X ≠ Y from hne)]
  exact h
theorem sumN_tot (C : List (Int × Int)) : sumN C = tot C := rfl
theorem came_wf {L : List (Sl Int)} (ho : ∀ z ∈ L, ∀ y ∈ z.l, wfI y) {most : Int} : ∀ p ∈ Came.of most ((L.take 60).map (fun s => s.l)), wfI p.1 := by
  intro p hp
  obtain ⟨c, hc, h1⟩ := List.mem_filterMap.1 hp
  obtain ⟨s, hs, rfl⟩ := List.mem_map.1 hc
  unfold Came.one at h1
  split at h1
  · rename_i k n hk hn
    simp only [Option.some.injEq] at h1
    subst h1
    exact ho s (List.mem_of_mem_take hs) k (List.mem_of_getElem? hk)
  · cases h1

set_option maxRecDepth 100000 in
set_option maxHeartbeats 12000000 in
theorem walk (x0 : Int) (x1 : Sl (Sl Int)) (x2 : Sl (Sl Int)) (x3 : Int) (w : World) (w0 : (Lit.int .i64 x0).wf = true) (t1 : Tab w x1.a x1.len x1.cap 1 (x1.l.map slC)) (b1 : x1.len * 24 ≤ 140737488351232) (o1 : ∀ z ∈ x1.l, (fun y : Sl Int => Tab w y.a y.len y.cap 1 (y.l.map iC) ∧ y.len * 8 ≤ 140737488351232 ∧ ∀ z ∈ y.l, wfI z) z) (t2 : Tab w x2.a x2.len x2.cap 1 (x2.l.map slC)) (b2 : x2.len * 24 ≤ 140737488351232) (o2 : ∀ z ∈ x2.l, (fun y : Sl Int => Tab w y.a y.len y.cap 1 (y.l.map iC) ∧ y.len * 8 ≤ 140737488351232 ∧ ∀ z ∈ y.l, wfI z) z) (w3 : (Lit.int .i64 x3).wf = true) :
    Calls Try.prog 6 #[.int .i64 x0, .slice x1.a x1.len x1.cap, .slice x2.a x2.len x2.cap, .int .i64 x3] w fun e w' => e = .returned (.bool true) ∧ Below w.heap.size w w' := by
  obtain ⟨a, len, cap, S⟩ := x1
  obtain ⟨a', len', cap', S'⟩ := x2
  simp only at t1 o1 b1 t2 o2 b2
  generalize x3 = key at *
  have hb0 : Below w.heap.size w ((w.alloc (.cells #[.int .i64 5, .int .i64 3] 43)).alloc (.cells #[.int .i64 6, .int .i64 2] 43)) := ((Below.refl _ _).alloc (Nat.le_refl _) _).alloc (by simp) _
  have T5 := (tab_lit w 43 2 1 ([((5 : Int), (3 : Int))].map iiC) #[.int .i64 5, .int .i64 3] rfl rfl (rows_of iiC_len _) (by decide) _ rfl).below ((Below.refl _ (w.alloc (.cells #[.int .i64 5, .int .i64 3] 43))).alloc (Nat.le_refl _) (.cells #[.int .i64 6, .int .i64 2] 43))
  have T6 := tab_lit (w.alloc (.cells #[.int .i64 5, .int .i64 3] 43)) 43 2 1 ([((6 : Int), (2 : Int))].map iiC) #[.int .i64 6, .int .i64 2] rfl rfl (rows_of iiC_len _) (by decide) (w.heap.size + 1) (by simp)
  have C0 := Lib.hid (join_56 T5 T6)
  have HB0 := Lib.hid hb0
  have hd := withI_bd x0 16 (by decide)
  have HWN := Lib.hid (fun W => within_int x0 16 W (wf_i64 w0) (by omega) (by omega))
  generalize withI x0 16 = u at *
  obtain ⟨K, hK⟩ : ∃ K, 1 + u = K := ⟨_, rfl⟩
  have hK1 : 1 ≤ K := by omega
  have hK2 : K ≤ 16 := by omega
  have HK := Lib.hid hK
  have hu0 := hd.1
  have hu1 := hd.2
  have HCM := Lib.hid (fun (W : World) (hb : Below w.heap.size w W) => came_any a len cap S 1000 W (t1.below hb) (fun z hz => ⟨((o1 z hz).1).below hb, (o1 z hz).2.2⟩) (by decide) (by decide))
  have HCM2 := Lib.hid (fun (W : World) (hb : Below w.heap.size w W) => came_any a' len' cap' S' 1000 W (t2.below hb) (fun z hz => ⟨((o2 z hz).1).below hb, (o2 z hz).2.2⟩) (by decide) (by decide))
  have hwf := came_wf (L := S) (fun z hz => (o1 z hz).2.2) (most := 1000)
  have hAb := of_bd (most := 1000) (by decide) (L := (S.take 60).map (fun s => s.l))
  have hAl : (Came.of 1000 ((S.take 60).map (fun s => s.l))).length ≤ 60 := Nat.le_trans (of_len _ _) (by rw [List.length_map, List.length_take]; omega)
  have hAs := sumN_bd (most := 1000) (by decide) hAb
  obtain ⟨A, hA⟩ : ∃ A, Came.of 1000 ((S.take 60).map (fun s => s.l)) = A := ⟨_, rfl⟩
  rw [hA] at HCM hAb hAl hAs hwf
  have HAb := Lib.hid hAb
  have HAl := Lib.hid hAl
  have HWF := Lib.hid hwf
  obtain ⟨T, hT⟩ : ∃ T, sumN A = T := ⟨_, rfl⟩
  rw [hT] at hAs HCM
  have HT := Lib.hid hT
  have hT0 : 0 ≤ T := hAs.1
  have hT1 : T ≤ 60000 := by have := hAs.2; omega
  clear hA hAb hAl hAs hT hwf
  have hwf2 := came_wf (L := S') (fun z hz => (o2 z hz).2.2) (most := 1000)
  have hAb2 := of_bd (most := 1000) (by decide) (L := (S'.take 60).map (fun s => s.l))
  have hAl2 : (Came.of 1000 ((S'.take 60).map (fun s => s.l))).length ≤ 60 := Nat.le_trans (of_len _ _) (by rw [List.length_map, List.length_take]; omega)
  have hAs2 := sumN_bd (most := 1000) (by decide) hAb2
  obtain ⟨B, hA2⟩ : ∃ A, Came.of 1000 ((S'.take 60).map (fun s => s.l)) = A := ⟨_, rfl⟩
  rw [hA2] at HCM2 hAb2 hAl2 hAs2 hwf2
  have HAb2 := Lib.hid hAb2
  have HAl2 := Lib.hid hAl2
  have HWF2 := Lib.hid hwf2
  obtain ⟨U, hT2⟩ : ∃ T, sumN B = T := ⟨_, rfl⟩
  rw [hT2] at hAs2 HCM2
  have HT2 := Lib.hid hT2
  have hT02 : 0 ≤ U := hAs2.1
  have hT12 : U ≤ 60000 := by have := hAs2.2; omega
  clear hA2 hAb2 hAl2 hAs2 hT2 hwf2
  have HWK := Lib.hid w3
  clear hb0 hd hK t1 o1 b1 t2 o2 b2 w0 T5 T6
  go_enter Try.func6, Try.ntmps6
  go_wp2_with fail
  refine C0.out.mono ?_
  rintro e v1 ⟨q1, rfl, hO, hb⟩
  obtain ⟨a1, c1, rfl, hTq⟩ := own_ctrs (n := 1) hO rfl
  have hz := FV.new (K := 1) (L := 2) hTq
  have HB1 := Lib.hid (below_on (below_on HB0.out hb) hz.2)
  have hwv := (below_on HB0.out hb).size
  obtain ⟨v2, hv2⟩ : ∃ v, v1.alloc (.cells #[.int .i64 1, .int .i64 2, .slice a1 1 c1] 39) = v := ⟨_, rfl⟩
  rw [hv2] at HB1 hz
  obtain ⟨Y, hY⟩ : ∃ Y, v1.heap.size = Y := ⟨_, rfl⟩
  rw [hY] at hz hwv
  have SY := Lib.hid hz.1
  have HVX := Lib.hid (And.intro hv2 hY)
  have HWY := Lib.hid hwv
  clear hz hb hO hTq hv2 hY HB0 C0 hwv
  go_upto_region 2 with fail
  rw [HVX.out.1, HVX.out.2]
  clear HVX
  have hal : Below v2.heap.size v2 (v2.alloc (.cells #[.int .i64 5, .int .i64 1] 43)) := (Below.refl _ _).alloc (Nat.le_refl _) _
  have CE := Lib.hid (sameFew_any 1 1 2 2 a1 (some ⟨v2.heap.size, 0, none⟩) 1 c1 1 1 [(5, 1)] [(5, 1)] _ (SY.out.2.below hal) (tab_lit v2 43 2 1 ([((5 : Int), (1 : Int))].map iiC) #[.int .i64 5, .int .i64 1] rfl rfl (rows_of iiC_len _) (by decide) _ rfl) true (by simp))
  unfold fewV at CE
  obtain ⟨c0, d0, e0⟩ := SY.out.cells
  have HAL := Lib.hid hal
  clear hal
  go_wp2_with fail
  clear c0 d0 e0
  refine CE.out.mono ?_
  rintro e v3 ⟨rfl, hb⟩
  have HB3 := Lib.hid (below_on (below_on HB1.out HAL.out) hb)
  replace SY := Lib.hid ((SY.out.below HAL.out).below hb)
  clear hb CE HAL HB1
  go_wp2_with fail
  refine (HWN.out _).mono ?_
  rintro e v4 ⟨rfl, hv4⟩
  rw [← hv4]
  clear hv4 HWN
  go_upto_region 5 with fail
  rw [HK.out]
  go_wp2_with fail
  refine (HCM.out _ HB3.out).mono ?_
  rintro e v5 ⟨qA, rfl, hO, hb⟩
  obtain ⟨nA, hnA⟩ : ∃ n, A.length = n := ⟨_, rfl⟩
  obtain ⟨aA, cA, rfl, hTA⟩ := own_ctrs hO hnA
  have HNA := Lib.hid hnA
  have hn60 : nA ≤ 60 := by rw [← hnA]; exact HAl.out
  have HB5 := Lib.hid (below_on HB3.out hb)
  have hYc : Y < v3.heap.size := (Array.getElem?_eq_some_iff.1 SY.out.1).1
  replace SY := Lib.hid (SY.out.below hb)
  have OA := Lib.hid (hO.base_le (B := Y + 1) hYc)
  clear hO hb hTA hnA HCM HB3
  go_wp2_with fail
  refine (HCM2.out _ HB5.out).mono ?_
  rintro e v6 ⟨qB, rfl, hO, hb⟩
  obtain ⟨nB, hnB⟩ : ∃ n, B.length = n := ⟨_, rfl⟩
  obtain ⟨aB, cB, rfl, hTB⟩ := own_ctrs hO hnB
  have HNB := Lib.hid hnB
  have hm60 : nB ≤ 60 := by rw [← hnB]; exact HAl2.out
  have HB6 := Lib.hid (below_on HB5.out hb)
  have hYd : Y < v5.heap.size := (Array.getElem?_eq_some_iff.1 SY.out.1).1
  replace SY := Lib.hid (SY.out.below hb)
  replace OA := Lib.hid (OA.out.below hb)
  have OB := Lib.hid (hO.base_le (B := Y + 1) hYd)
  clear hO hb hTB hnB HCM2 HB5
  have HH := Lib.hid (heard_any K aA nA cA A v6 OA.out.tab_of (by omega) hK1 hK2 (fun p hp => by have := HAb.out p hp; omega) (by rw [← sumN_tot, HT.out]; omega))
  go_wp2_with fail
  refine HH.out.mono ?_
  rintro e v7 ⟨L, C, q, rfl, hN, hO, hb⟩
  obtain ⟨nC, hnC⟩ : ∃ n, C.length = n := ⟨_, rfl⟩
  obtain ⟨aC, cC, rfl, hTC⟩ := own_ctrs hO hnC
  have hz := FV.new (K := K) (L := L) hTC
  have HB8 := Lib.hid (below_on (below_on HB6.out hb) hz.2)
  have hYe : Y < v6.heap.size := (Array.getElem?_eq_some_iff.1 SY.out.1).1
  have OC := Lib.hid ((hO.base_le (B := Y + 1) hYe).below hz.2)
  replace SY := Lib.hid (SY.out.below hb)
  have hYa : Y < v7.heap.size := (Array.getElem?_eq_some_iff.1 SY.out.1).1
  replace SY := Lib.hid (SY.out.below hz.2)
  replace OA := Lib.hid ((OA.out.below hb).below hz.2)
  replace OB := Lib.hid ((OB.out.below hb).below hz.2)
  obtain ⟨v8, hv8⟩ : ∃ v, v7.alloc (.cells #[.int .i64 K, .int .i64 L, .slice aC nC cC] 39) = v := ⟨_, rfl⟩
  rw [hv8] at HB8 hz SY OA OB OC
  obtain ⟨XA, hXA⟩ : ∃ Y, v7.heap.size = Y := ⟨_, rfl⟩
  rw [hXA] at hz hYa
  have SA := Lib.hid hz.1
  have HVX := Lib.hid (And.intro hv8 hXA)
  have HN := Lib.hid hN
  clear hz hb hO hTC hv8 hXA hN HH HB6
  go_upto_region 8 with fail
  rw [HVX.out.1, HVX.out.2]
  clear HVX
  have HH := Lib.hid (heard_any K aB nB cB B v8 OB.out.tab_of (by omega) hK1 hK2 (fun p hp => by have := HAb2.out p hp; omega) (by rw [← sumN_tot, HT2.out]; omega))
  go_wp2_with fail
  refine HH.out.mono ?_
  rintro e v9 ⟨M, D, q, rfl, hN, hO, hb⟩
  obtain ⟨nD, hnD⟩ : ∃ n, D.length = n := ⟨_, rfl⟩
  obtain ⟨aD, cD, rfl, hTD⟩ := own_ctrs hO hnD
  have hz := FV.new (K := K) (L := M) hTD
  have HB10 := Lib.hid (below_on (below_on HB8.out hb) hz.2)
  have hYf : Y < v8.heap.size := (Array.getElem?_eq_some_iff.1 SY.out.1).1
  have OD := Lib.hid ((hO.base_le (B := Y + 1) hYf).below hz.2)
  replace OC := Lib.hid ((OC.out.below hb).below hz.2)
  replace SY := Lib.hid (SY.out.below hb)
  have hYb : Y < v9.heap.size := (Array.getElem?_eq_some_iff.1 SY.out.1).1
  replace SY := Lib.hid (SY.out.below hz.2)
  replace SA := Lib.hid ((SA.out.below hb).below hz.2)
  replace OA := Lib.hid ((OA.out.below hb).below hz.2)
  replace OB := Lib.hid ((OB.out.below hb).below hz.2)
  obtain ⟨v10, hv10⟩ : ∃ v, v9.alloc (.cells #[.int .i64 K, .int .i64 M, .slice aD nD cD] 39) = v := ⟨_, rfl⟩
  rw [hv10] at HB10 hz SY OA OB SA OC OD
  obtain ⟨XB, hXB⟩ : ∃ Y, v9.heap.size = Y := ⟨_, rfl⟩
  rw [hXB] at hz hYb
  have SB := Lib.hid hz.1
  have HVX := Lib.hid (And.intro hv10 hXB)
  have GN := Lib.hid hN
  clear hz hb hO hTD hv10 hXB hN HH HB8
  go_upto_region 9 with fail
  rw [HVX.out.1, HVX.out.2]
  clear HVX
  have htot : tot A + tot B ≤ 1000000000000 := by rw [← sumN_tot, ← sumN_tot, HT.out, HT2.out]; omega
  have CJ := Lib.hid (join_near SA.out.2 SB.out.2 HN.out GN.out htot)
  have hjn := near_join HN.out GN.out htot
  have hzt := joinZ_turned HN.out.good GN.out.good
  have CJ2 := fun (W : World) (h : Tab W aD nD cD 2 (D.map iiC)) (g : Tab W aC nC cC 2 (C.map iiC)) => join_near h g GN.out HN.out (by omega)
  rw [hzt.1, hzt.2, Int.add_comm M L] at CJ2
  replace CJ2 := Lib.hid CJ2
  obtain ⟨Z, hZ⟩ : ∃ z, L + M + joinZ K C D = z := ⟨_, rfl⟩
  obtain ⟨J, hJ⟩ : ∃ z, joinC K C D = z := ⟨_, rfl⟩
  have hjn2 : Near K (A ++ B) (L + M + joinZ K C D) (joinC K C D) := hjn
  rw [hZ, hJ] at CJ CJ2 hjn2
  have JN := Lib.hid hjn2
  obtain ⟨nJ, hnJ⟩ : ∃ n, J.length = n := ⟨_, rfl⟩
  have HNJ := Lib.hid hnJ
  have hYw : w.heap.size ≤ Y := HWY.out
  have hXAY : XA ≠ Y := by omega
  have hXBY : XB ≠ Y := by omega
  clear hjn hzt hZ hJ hjn2 hnJ
  obtain ⟨c0, d0, e0⟩ := SA.out.cells
  obtain ⟨c1', d1, e1⟩ := SB.out.cells
  have hYv : Y < v10.heap.size := (Array.getElem?_eq_some_iff.1 SY.out.1).1
  go_wp2_with fail
  refine CJ.out.mono ?_
  rintro e v11 ⟨q, rfl, hO, hb⟩
  obtain ⟨aJ, cJ, rfl, hTJ⟩ := own_ctrs hO HNJ.out
  replace SY := Lib.hid (SY.out.below hb)
  replace SA := Lib.hid (SA.out.below hb)
  replace SB := Lib.hid (SB.out.below hb)
  replace OA := Lib.hid (OA.out.below hb)
  replace OB := Lib.hid (OB.out.below hb)
  replace OC := Lib.hid (OC.out.below hb)
  replace OD := Lib.hid (OD.out.below hb)
  have HB11 := Lib.hid (below_on HB10.out hb)
  obtain ⟨⟨y0, y1, y2⟩, f0, f1, f2⟩ := three_all SY.out.1
  have hYl : Y < Y + 1 := Nat.lt_succ_self _
  have HBW := Lib.hid (three_below HB11.out hYw K Z (.slice aJ nJ cJ))
  have KY := Lib.hid (three_set (x' := K) (y' := Z) (v' := .slice aJ nJ cJ) SY.out.1)
  have KA := Lib.hid (box_kept (a := K) (b := Z) (v := .slice aJ nJ cJ) SA.out.1 hXAY)
  have KB := Lib.hid (box_kept (a := K) (b := Z) (v := .slice aJ nJ cJ) SB.out.1 hXBY)
  have TJ := Lib.hid (three_own hO hYv K Z (.slice aJ nJ cJ)).tab_of
  have TA := Lib.hid (three_own OA.out hYl K Z (.slice aJ nJ cJ)).tab_of
  have TB := Lib.hid (three_own OB.out hYl K Z (.slice aJ nJ cJ)).tab_of
  have TC := Lib.hid (three_own OC.out hYl K Z (.slice aJ nJ cJ)).tab_of
  have TD := Lib.hid (three_own OD.out hYl K Z (.slice aJ nJ cJ)).tab_of
  clear hO hb hTJ SY SA SB OA OB OC OD HB11 CJ c0 d0 e0 c1' d1 e1 HB10
  go_upto_region 10 with fail
  obtain ⟨v12, hv12⟩ : ∃ v, (((v11.setCell ⟨Y, 0, none⟩ (.int .i64 K)).setCell ⟨Y, 1, none⟩ (.int .i64 Z)).setCell ⟨Y, 2, none⟩ (.slice aJ nJ cJ)) = v := ⟨_, rfl⟩
  rw [hv12] at HBW KY KA KB TJ TA TB TC TD
  rw [hv12]
  clear hv12 y0 y1 y2 f0 f1 f2
  have SF : Hid (FV v12 Y K Z aJ nJ cJ J) := Lib.hid ⟨KY.out, TJ.out⟩
  have SA : Hid (FV v12 XA K L aC nC cC C) := Lib.hid ⟨KA.out, TC.out⟩
  have SB : Hid (FV v12 XB K M aD nD cD D) := Lib.hid ⟨KB.out, TD.out⟩
  have CJ := Lib.hid (CJ2.out v12 TD.out TC.out)
  clear KY KA KB TJ TC TD CJ2
  obtain ⟨c0, d0, e0⟩ := SA.out.cells
  obtain ⟨c1', d1, e1⟩ := SB.out.cells
  go_wp2_with fail
  clear c0 d0 e0 c1' d1 e1
  refine CJ.out.mono ?_
  rintro e v13 ⟨q, rfl, hO, hb⟩
  obtain ⟨aG, cG, rfl, hTG⟩ := own_ctrs hO HNJ.out
  have hz := FV.new (K := K) (L := Z) hTG
  have HB14 := Lib.hid (below_on (below_on HBW.out hb) hz.2)
  replace SF := Lib.hid ((SF.out.below hb).below hz.2)
  replace TA := Lib.hid ((TA.out.below hb).below hz.2)
  replace TB := Lib.hid ((TB.out.below hb).below hz.2)
  obtain ⟨v14, hv14⟩ : ∃ v, v13.alloc (.cells #[.int .i64 K, .int .i64 Z, .slice aG nJ cG] 39) = v := ⟨_, rfl⟩
  rw [hv14] at HB14 hz SF TA TB
  obtain ⟨XG, hXG⟩ : ∃ Y, v13.heap.size = Y := ⟨_, rfl⟩
  rw [hXG] at hz
  have SG := Lib.hid hz.1
  have HVX := Lib.hid (And.intro hv14 hXG)
  have hsum := JN.out.sum
  have hz0 := JN.out.good.l1
  have hz1 := JN.out.good.l2
  have hgl := JN.out.good.len
  rw [HNJ.out] at hgl
  rw [tot_append, ← sumN_tot A, ← sumN_tot B, HT.out, HT2.out] at hsum
  have htp := (tot_pos (C := J) (fun c hc => by have := (JN.out.good.num c hc).1; omega)).1
  have hmul0 : 0 ≤ Z * (K + 1) := Int.mul_nonneg hz0 (by omega)
  obtain ⟨P, hP⟩ : ∃ P, Z * (K + 1) = P := ⟨_, rfl⟩
  rw [hP] at hsum hmul0
  have tP : decide (P > T + U) = false := decide_eq_false (by omega)
  have tJ : decide ((nJ : Int) > K) = false := decide_eq_false (by omega)
  have hmul : P ≤ T + U := by omega
  clear hz hb hO hTG hv14 hXG CJ SA SB HBW hsum htp
  go_upto_region 11 with fail
  rw [HVX.out.1, HVX.out.2]
  clear HVX
  have CS := Lib.hid (sameFew_any K K Z Z aJ aG nJ cJ nJ cG J J v14 SF.out.2 SG.out.2 true (by simp))
  unfold fewV at CS
  obtain ⟨c0, d0, e0⟩ := SF.out.cells
  obtain ⟨c1', d1, e1⟩ := SG.out.cells
  go_wp2_with fail
  clear c0 d0 e0 c1' d1 e1
  refine CS.out.mono ?_
  rintro e v15 ⟨rfl, hb⟩
  have HB15 := Lib.hid (below_on HB14.out hb)
  replace SF := Lib.hid (SF.out.below hb)
  replace TA := Lib.hid (TA.out.below hb)
  replace TB := Lib.hid (TB.out.below hb)
  clear hb CS SG HB14
  obtain ⟨c0, d0, e0⟩ := SF.out.cells
  have hlit : Tab (v15.alloc (.cells #[.slice aA nA cA, .slice aB nB cB] 37)) (some ⟨v15.heap.size, 0, none⟩) 2 2 1 (([⟨aA, nA, cA, A⟩, ⟨aB, nB, cB, B⟩] : List (Sl (Int × Int))).map slC) := tab_lit v15 37 1 2 (([⟨aA, nA, cA, A⟩, ⟨aB, nB, cB, B⟩] : List (Sl (Int × Int))).map slC) #[.slice aA nA cA, .slice aB nB cB] rfl rfl (by intro r hr; obtain ⟨y, _, rfl⟩ := List.mem_map.1 hr; rfl) (by decide) _ rfl
  have hbl : Below v15.heap.size v15 (v15.alloc (.cells #[.slice aA nA cA, .slice aB nB cB] 37)) := (Below.refl _ _).alloc (Nat.le_refl _) _
  have hcc := concat_counters _ 2 2 _ _ hlit (by
    intro s hs
    rcases List.mem_cons.1 hs with rfl | hs
    · exact TA.out.below hbl
    · obtain rfl := List.mem_singleton.1 hs
      exact TB.out.below hbl) (by simp; omega)
  rw [show (([⟨aA, nA, cA, A⟩, ⟨aB, nB, cB, B⟩] : List (Sl (Int × Int))).flatMap (·.l)) = A ++ B by simp] at hcc
  have CC9 := Lib.hid hcc
  have HBL := Lib.hid hbl
  clear hlit hbl hcc
  obtain ⟨AB, hAB⟩ : ∃ l, A ++ B = l := ⟨_, rfl⟩
  have HAB2 : Hid (∀ p ∈ AB, 1 ≤ p.2 ∧ p.2 ≤ 1000) := Lib.hid (fun p hp => by
    rw [← hAB] at hp
    rcases List.mem_append.1 hp with h | h
    · exact HAb.out p h
    · exact HAb2.out p h)
  have HABW : Hid (∀ p ∈ AB, wfI p.1) := Lib.hid (fun p hp => by
    rw [← hAB] at hp
    rcases List.mem_append.1 hp with h | h
    · exact HWF.out p h
    · exact HWF2.out p h)
  have HABS : Hid (sumN AB = T + U) := Lib.hid (by rw [← hAB, sumN_append, HT.out, HT2.out])
  have HABN : Hid (Near K AB Z J) := Lib.hid (by rw [← hAB]; exact JN.out)
  obtain ⟨nAB, hnAB⟩ : ∃ n, AB.length = n := ⟨_, rfl⟩
  have HNAB := Lib.hid hnAB
  have hn120 : nAB ≤ 120 := by
    have := HNA.out
    have := HNB.out
    rw [← hnAB, ← hAB, List.length_append]
    omega
  rw [hAB] at CC9
  have HAB := Lib.hid hAB
  clear hAB hnAB
  go_wp2_with fail
  refine CC9.out.mono ?_
  rintro e v16 ⟨q, rfl, hO, hb⟩
  obtain ⟨aR0, cR0, rfl, hTR0⟩ := own_ctrs hO HNAB.out
  have HB16 := Lib.hid (below_on (below_on HB15.out HBL.out) hb)
  replace SF := Lib.hid ((SF.out.below HBL.out).below hb)
  replace TA := Lib.hid ((TA.out.below HBL.out).below hb)
  replace TB := Lib.hid ((TB.out.below HBL.out).below hb)
  have HCo := Lib.hid (counts_any aR0 nAB cR0 AB v16 hTR0 (by omega) (fun p hp => by have := HAB2.out p hp; omega) HABW.out (by rw [HABS.out]; omega))
  clear hO hb hTR0 CC9 HBL HB15 c0 d0 e0
  go_wp2_with fail
  refine HCo.out.mono ?_
  rintro e v17 ⟨mb, rfl, hmb, hM, hb⟩
  have HB17 := Lib.hid (below_on HB16.out hb)
  replace SF := Lib.hid (SF.out.below hb)
  replace TA := Lib.hid (TA.out.below hb)
  replace TB := Lib.hid (TB.out.below hb)
  have HM := Lib.hid hM
  clear hb hM hmb HCo HB16
  have hlit : Tab (v17.alloc (.cells #[.slice aA nA cA, .slice aB nB cB] 37)) (some ⟨v17.heap.size, 0, none⟩) 2 2 1 (([⟨aA, nA, cA, A⟩, ⟨aB, nB, cB, B⟩] : List (Sl (Int × Int))).map slC) := tab_lit v17 37 1 2 (([⟨aA, nA, cA, A⟩, ⟨aB, nB, cB, B⟩] : List (Sl (Int × Int))).map slC) #[.slice aA nA cA, .slice aB nB cB] rfl rfl (by intro r hr; obtain ⟨y, _, rfl⟩ := List.mem_map.1 hr; rfl) (by decide) _ rfl
  have hbl : Below v17.heap.size v17 (v17.alloc (.cells #[.slice aA nA cA, .slice aB nB cB] 37)) := (Below.refl _ _).alloc (Nat.le_refl _) _
  have hcc := concat_counters _ 2 2 _ _ hlit (by
    intro s hs
    rcases List.mem_cons.1 hs with rfl | hs
    · exact TA.out.below hbl
    · obtain rfl := List.mem_singleton.1 hs
      exact TB.out.below hbl) (by simp; omega)
  rw [show (([⟨aA, nA, cA, A⟩, ⟨aB, nB, cB, B⟩] : List (Sl (Int × Int))).flatMap (·.l)) = A ++ B by simp, HAB.out] at hcc
  have CC9 := Lib.hid hcc
  have HB90 := Lib.hid hbl
  have SF9 := Lib.hid (SF.out.below hbl)
  have HM9 := Lib.hid (HM.out.below hbl)
  have HB9 := Lib.hid (below_on HB17.out hbl)
  obtain ⟨v9', hv9'⟩ : ∃ v, v17.alloc (.cells #[.slice aA nA cA, .slice aB nB cB] 37) = v := ⟨_, rfl⟩
  rw [hv9'] at CC9 SF9 HM9 HB9
  have HVX := Lib.hid hv9'
  obtain ⟨v17s, hv17s⟩ : ∃ s, v17.heap.size = s := ⟨_, rfl⟩
  clear hlit hbl hcc HB90 HM SF HB17 TA TB hv9' hv17s
  go_wp2_with fail
  rw [HVX.out]
  clear HVX
  refine CC9.out.mono ?_
  rintro e v10' ⟨vc, rfl, hO, hb⟩
  have HS10 := Lib.hid hb.size
  have HO10 := Lib.hid hO
  have HB90 := Lib.hid hb
  clear hb hO CC9
  obtain ⟨nR, hnR⟩ : ∃ n, (AB ++ [(key, 0)]).length = n := ⟨_, rfl⟩
  have HNR := Lib.hid hnR
  have hnR61 : nR ≤ 121 := by rw [← hnR, List.length_append]; simp; have := HNAB.out; omega
  clear hnR
  go_wp2_with (at_builtin; refine wpList_append_rows _ rfl _ _ 37 rfl v9'.heap.size 43 _ 2 16 Try.underlying37 info_counter rfl (by decide) _ (AB.map iiC) rfl (HO10.out.alloc _) ⟨v10'.heap.size, 0, none⟩ 1 1 [iiC (key, 0)] rfl rfl (by simp [iiC]) (one_row _ (iiC (key, 0)) 43 _ (by simp)) (by simp [iiC, Value.oneCell']) (by rw [List.length_map]; have := HNAB.out; omega) (by decide) (by have := HS10.out; simp; omega) ?_; intro v' v11' hO2 hg2; have hO3 : Own v11' v9'.heap.size 43 2 v' ((AB ++ [(key, 0)]).map iiC) := (by rw [List.map_append]; exact hO2); obtain ⟨aR, cR, rfl, hTR⟩ := own_ctrs hO3 HNR.out)
  have hu9 := (HO10.out.alloc (.cells #[.int .i64 key, .int .i64 0] 43)).under (HB90.out.alloc HS10.out _) (Nat.le_refl _) (by have := HS10.out; simp; omega) hg2
  have TR := Lib.hid hTR
  have HB11 := Lib.hid (below_on HB9.out hu9)
  have SF := Lib.hid (SF9.out.below hu9)
  have HM := Lib.hid (HM9.out.below hu9)
  have HRW : Hid (∀ p ∈ AB ++ [(key, 0)], wfI p.1) := Lib.hid (fun p hp => by
    rcases List.mem_append.1 hp with h | h
    · exact HABW.out p h
    · rw [List.mem_singleton.1 h]; exact HWK.out)
  generalize AB ++ [(key, 0)] = R at *
  clear hO2 hO3 hg2 hu9 hTR HO10 HB90 SF9 HM9 HB9 HS10
  go_loopg [136] nR (fun g i wr => ∃ j : Nat, j + g = nR ∧ i = .int .i64 j ∧ Hid (Below v11'.heap.size v11' wr))
  case atStart => exact ⟨0, by omega, rfl, Lib.hid (Below.refl _ _)⟩
  case round =>
    obtain ⟨j, hj0, rfl, HW⟩ := hrel
    have HJ := Lib.hid hj0
    have hj : j ≤ nR := by omega
    clear hj0
    have HBW := Lib.hid (below_on HB11.out HW.out)
    by_cases hlt : j < nR
    · obtain ⟨⟨x, m⟩, hx⟩ : ∃ x, R[j]? = some x := ⟨_, List.getElem?_eq_getElem (by rw [HNR.out]; exact hlt)⟩
      obtain ⟨b1, o1, ha, hbs, p0, p1⟩ := TR.out.two HW.out (map_get hx)
      have hwx := HRW.out _ (List.mem_of_getElem? hx)
      simp only at hwx
      have hal : Below wr.heap.size wr (wr.alloc (.cells #[.int .i64 x, .int .i64 m] 43)) := (Below.refl _ _).alloc (Nat.le_refl _) _
      have kc := (MapKept.heap_alloc wr (.cells #[.int .i64 x, .int .i64 m] 43)).1
      obtain ⟨w1, hw1⟩ : ∃ v, wr.alloc (.cells #[.int .i64 x, .int .i64 m] 43) = v := ⟨_, rfl⟩
      rw [hw1] at hal kc
      have SF1 := Lib.hid ((SF.out.below HW.out).below hal)
      have HM1 := Lib.hid ((HM.out.below HW.out).below hal)
      have CA := fewAsk_ok K Z aJ nJ cJ J x w1 SF1.out.2 HABN.out.good
      unfold fewV at CA
      have hlow := HABN.out.low x
      have hhigh := HABN.out.high x
      have hz1 := oft_pos (C := J) (fun c hc => by have := (HABN.out.good.num c hc).1; omega) x
      have hz2 := (oft_bd (z := x) (C := AB) (fun p hp => by have := HAB2.out p hp; omega)).2
      rw [HABS.out] at hz2
      have hrev := oft_reverse x AB
      obtain ⟨z, hz⟩ : ∃ z, oft x J = z := ⟨_, rfl⟩
      obtain ⟨y, hy⟩ : ∃ y, oft x AB = y := ⟨_, rfl⟩
      rw [hz] at CA hlow hhigh hz1
      rw [hy] at hlow hhigh hz2 hrev
      have CA := Lib.hid CA
      have HREV := Lib.hid hrev
      have HWX := Lib.hid hwx
      have HBW1 := Lib.hid (below_on HBW.out hal)
      have HV1 := Lib.hid hw1
      have KC := Lib.hid kc
      have HW1 := Lib.hid (below_on HW.out hal)
      subst ha
      clear hx hwx hal kc hw1 hz hy hrev
      go_upto_region 17 with fail
      rw [HV1.out]
      obtain ⟨B, hB⟩ : ∃ Y, wr.heap.size = Y := ⟨_, rfl⟩
      rw [hB] at KC ⊢
      clear HV1 hB p0 p1
      obtain ⟨e0, e1⟩ := pair_cells KC.out
      obtain ⟨f0, f1, f2⟩ := SF1.out.cells
      go_wp2_with fail
      clear e0 e1 f0 f1 f2
      refine CA.out.mono ?_
      rintro e w2 ⟨rfl, hb⟩
      have KC2 := Lib.hid (kept_blk hb KC.out)
      have HM2 := Lib.hid (HM1.out.below hb)
      have HB2 := Lib.hid (below_on HBW1.out hb)
      have HW2 := Lib.hid (below_on HW1.out hb)
      have hlook := HM2.out.look lawRC Try.underlying50 Try.underlying3 (zeroRC _) (Maps.keyOf_int_mk (P := Try.prog) Try.underlying3 HWX.out)
      rw [HREV.out] at hlook
      obtain ⟨e0, e1⟩ := pair_cells KC2.out
      have t1 : decide (z > y) = false := decide_eq_false (by omega)
      have t2 : decide (z + Z < y) = false := decide_eq_false (by omega)
      clear hb KC CA HM1 SF1
      go_wp2_with fail
      go_roundg (nR - (j + 1))
      case measure => have := HJ.out; omega
      case rel => exact ⟨j + 1, by omega, by go_num, HW2⟩
    · obtain rfl : j = nR := by omega
      go_wp2
      go_ret
      exact ⟨rfl, HBW.out⟩

set_option maxRecDepth 100000 in
theorem lifted (os : Os) (started : os.Started) (H : Type) (enc : TypeId × Value → H) :
    ReturnsInHanded {} Try.checked os 6 .any (Rows.fewJoinSpec.pre6 enc Try.prog Try.f6 Rows.fewJoinRow.domain false) (Rows.fewJoinSpec.post enc Try.prog Try.f6 false true false false) := by
  refine returnsInHanded_of_change_sized (C := Try.checked) own started (by kernel_rfl) Try.func6
    (ChangeSpec.witness6 (enc := enc) (C := Try.checked) false ⟨#[], #[.int .i64 0, .slice none 0 0, .slice none 0 0, .int .i64 0], []⟩ 8 (by kernel_rfl) (by kernel_rfl) (by kernel_rfl) (by kernel_rfl)) ?_
  intro W base args ds gs before hval0 hW hcnd hsz0 _
  have hval : ∀ (j : Nat) t v, Try.f6.params[j]? = some t → args[j]? = some v → Value.okWide Try.prog W .any base t v := hval0
  have hW' := hW
  obtain ⟨p, q, hA0, hV, rfl, hfz, hnd⟩ := hW
  have hA : DataW.TrodAll enc Try.prog W 0 (fun _ => true) true Try.f6.params.toList args.toList ds p := hA0
  have hsz : (DataW.weightsEach Try.prog (Try.f6.params.toList ++ Rows.fewJoinSpec.plain.varTypes Try.prog) (ds ++ gs)).all (· ≤ reachBytes) = true := hsz0
  rw [Try.params6] at hA hval hsz
  obtain ⟨v0, vs0, d0, ds0, p0, q0, hargs, rfl, rfl, h0, r0⟩ := trodAll_cons hA
  obtain ⟨v1, vs1, d1, ds1, p1, q1, rfl, rfl, rfl, h1, r1⟩ := trodAll_cons r0
  obtain ⟨v2, vs2, d2, ds2, p2, q2, rfl, rfl, rfl, h2, r2⟩ := trodAll_cons r1
  obtain ⟨v3, vs3, d3, ds3, p3, q3, rfl, rfl, rfl, h3, r3⟩ := trodAll_cons r2
  obtain ⟨rfl, rfl, rfl⟩ := trodAll_nil r3
  obtain rfl : args = #[v0, v1, v2, v3] := by cases args; simp_all
  obtain ⟨rfl, rfl⟩ := trodVars_none hV
  have k0 := h0
  have L0 := light_of hsz (j := 0) (t := 3) (d := d0) rfl rfl
  have lt0 : ∀ x ∈ p0, x.block < W.heap.size := by obtain ⟨m, hm⟩ := k0; exact DataW.trod_lt m _ _ _ hm
  obtain ⟨x0, rfl, rfl, rfl, w0⟩ := open_int Try.underlying3 (hval 0 3 v0 rfl rfl) h0
  have k1 := h1
  have L1 := light_of hsz (j := 1) (t := 36) (d := d1) rfl rfl
  have lt1 : ∀ x ∈ p1, x.block < W.heap.size := by obtain ⟨m, hm⟩ := k1; exact DataW.trod_lt m _ _ _ hm
  obtain ⟨a1, len1, cap1, rfl⟩ := okWide_slice Try.underlying36 (hval 1 36 v1 rfl rfl)
  obtain ⟨n1, f1⟩ := trod_slice_of Try.underlying36 h1
  have F1 := And.intro f1 L1
  obtain ⟨x1, e1, t1, b1, o1⟩ := el_slice (w := W) (k := 1) slC (fun y : Sl Int => Tab W y.a y.len y.cap 1 (y.l.map iC) ∧ y.len * 8 ≤ 140737488351232 ∧ ∀ z ∈ y.l, wfI z) (by decide) Try.underlying36 (by kernel_rfl) (el_slice (k := 1) iC wfI (by decide) Try.underlying22 (by kernel_rfl) (el_int Try.underlying3) (B := 8) (by kernel_rfl)) (B := 24) (by kernel_rfl) _ _ _ F1.1 F1.2
  simp only [slC, List.cons.injEq, Value.slice.injEq, and_true] at e1
  obtain ⟨rfl, rfl, rfl⟩ := e1
  have k2 := h2
  have L2 := light_of hsz (j := 2) (t := 36) (d := d2) rfl rfl
  have lt2 : ∀ x ∈ p2, x.block < W.heap.size := by obtain ⟨m, hm⟩ := k2; exact DataW.trod_lt m _ _ _ hm
  obtain ⟨a2, len2, cap2, rfl⟩ := okWide_slice Try.underlying36 (hval 2 36 v2 rfl rfl)
  obtain ⟨n2, f2⟩ := trod_slice_of Try.underlying36 h2
  have F2 := And.intro f2 L2
  obtain ⟨x2, e2, t2, b2, o2⟩ := el_slice (w := W) (k := 1) slC (fun y : Sl Int => Tab W y.a y.len y.cap 1 (y.l.map iC) ∧ y.len * 8 ≤ 140737488351232 ∧ ∀ z ∈ y.l, wfI z) (by decide) Try.underlying36 (by kernel_rfl) (el_slice (k := 1) iC wfI (by decide) Try.underlying22 (by kernel_rfl) (el_int Try.underlying3) (B := 8) (by kernel_rfl)) (B := 24) (by kernel_rfl) _ _ _ F2.1 F2.2
  simp only [slC, List.cons.injEq, Value.slice.injEq, and_true] at e2
  obtain ⟨rfl, rfl, rfl⟩ := e2
  have k3 := h3
  have L3 := light_of hsz (j := 3) (t := 3) (d := d3) rfl rfl
  have lt3 : ∀ x ∈ p3, x.block < W.heap.size := by obtain ⟨m, hm⟩ := k3; exact DataW.trod_lt m _ _ _ hm
  obtain ⟨x3, rfl, rfl, rfl, w3⟩ := open_int Try.underlying3 (hval 3 3 v3 rfl rfl) h3
  clear hA0 hval0
  refine (walk x0 x1 x2 x3 W w0 t1 b1 o1 t2 b2 o2 w3).mono fun e W' ⟨he, hg⟩ => ?_
  subst he
  exact ⟨_, rfl, _, _, _, [], _, [], hW', trodAll_mk1 (shut_bool Try.underlying4 _), (trodAll_cons_mk (Below.trod laidOut (by kernel_rfl) (of_decide_eq_true (by kernel_rfl)) k0 hg lt0) (trodAll_cons_mk (Below.trod laidOut (by kernel_rfl) (of_decide_eq_true (by kernel_rfl)) k1 hg lt1) (trodAll_cons_mk (Below.trod laidOut (by kernel_rfl) (of_decide_eq_true (by kernel_rfl)) k2 hg lt2) (trodAll_cons_mk (Below.trod laidOut (by kernel_rfl) (of_decide_eq_true (by kernel_rfl)) k3 hg lt3) trodAll_mk0)))), rfl, hg.frame _, fun h => by cases h⟩

theorem over : Rows.fewJoinRow.holds Try.pinned (OpenSpec.ofChange Rows.fewJoinSpec) :=
  OpenClaim.holds_of_wide 6 Try.f6 rfl rfl rfl rfl rfl rfl rfl ⟨rfl, rfl, rfl, rfl, rfl⟩ rfl rfl rfl rfl rfl (by kernel_rfl) Try.func6 (by kernel_rfl)
    (of_decide_eq_true (by kernel_rfl)) (by unfold Func.isWrapper; first | (rw [if_pos (by decide +kernel)]; kernel_rfl) | (rw [if_neg (by decide +kernel)]; exact ⟨rfl, rfl⟩))
    (fun os started H enc _ => lifted os started H enc)

/-- ████ THE STATEMENT ████ -/
theorem proved : Rows.FewJoinSaid :=
  over
#print axioms proved
end Go.Proofs.Ytffgoekdjcempaa.fewJoin
