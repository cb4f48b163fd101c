/-
  'Rows.TableJoinsSaid' is proved: order and grouping of the keys that come have no effect on a sketch. No condition.
-/
import Derived.Test.YtcfejbhoeichnaaRows
import Derived.Test.YtcfejbhoeichnaaShapes
import Derived.Test.YtcfejbhoeichnaaTabSums
import Derived.Test.YtcfejbhoeichnaaTabMin
import Derived.Test.YtcfejbhoeichnaaTabSame
import Derived.Test.YtcfejbhoeichnaaConcatCounters
import Derived.Deep.DeepCutAuto
import Derived.WalkKit
import Derived.ProofKit
import Derived.OpenShut
import Derived.ShutString
import Derived.ChangeOld
import Derived.Below
namespace Go.Proofs.Ytcfejbhoeichnaa.tableJoins
open Go.ChangeShapes Go.WideShapes Go.ChangeAt Go.RowKit
open Go.ChangeMaps (open_string shut_string)
set_option linter.unusedVariables false

theorem own : ownKnob Try.prog.godebug = none := by kernel_rfl
theorem laidOut : laidOutB Try.prog = true := by kernel_rfl

open Tbl Came
theorem tab_of_own {w : World} {base : Nat} {e : TypeId} {v : Value} {C : List (Int × Int)} (h : Own w base e 2 v (C.map iiC)) : ∃ a n c, v = .slice a n c ∧ Tab w a n c 2 (C.map iiC) := by
  obtain ⟨a, c, e1, h1⟩ := h.tab
  exact ⟨a, _, c, e1, h1⟩
theorem lit_two (w : World) (t : TypeId) (a b : Option Addr) (n c n2 c2 : Nat) (C D : List (Int × Int)) : Tab (w.alloc (.cells #[.slice a n c, .slice b n2 c2] t)) (some ⟨w.heap.size, 0, none⟩) 2 2 1 (([⟨a, n, c, C⟩, ⟨b, n2, c2, D⟩] : List (Sl (Int × Int))).map slC) :=
  tab_lit w t 1 2 (([⟨a, n, c, C⟩, ⟨b, n2, c2, D⟩] : List (Sl (Int × Int))).map slC) #[.slice a n c, .slice b n2 c2] rfl rfl (by intro r hr; obtain ⟨y, _, rfl⟩ := List.mem_map.1 hr; rfl) (by decide) _ rfl

set_option maxRecDepth 100000 in
set_option maxHeartbeats 2000000 in
theorem walk (x0 : Int) (x1 : Int) (x2 : Sl (Sl Int)) (x3 : Sl (Sl Int)) (w : World) (w0 : (Lit.int .i64 x0).wf = true) (w1 : (Lit.int .i64 x1).wf = true) (t2 : Tab w x2.a x2.len x2.cap 1 (x2.l.map slC)) (b2 : x2.len * 24 ≤ 140737488351232) (o2 : ∀ z ∈ x2.l, (fun y : Sl Int => Tab w y.a y.len y.cap 1 (y.l.map iC) ∧ y.len * 8 ≤ 140737488351232 ∧ ∀ z ∈ y.l, wfI z) z) (t3 : Tab w x3.a x3.len x3.cap 1 (x3.l.map slC)) (b3 : x3.len * 24 ≤ 140737488351232) (o3 : ∀ z ∈ x3.l, (fun y : Sl Int => Tab w y.a y.len y.cap 1 (y.l.map iC) ∧ y.len * 8 ≤ 140737488351232 ∧ ∀ z ∈ y.l, wfI z) z) :
    Calls Try.prog 6 #[.int .i64 x0, .int .i64 x1, .slice x2.a x2.len x2.cap, .slice x3.a x3.len x3.cap] w fun e w' => e = .returned (.bool true) ∧ Below w.heap.size w w' := by
  obtain ⟨a, len, cap, L⟩ := x2
  obtain ⟨b, len2, cap2, M⟩ := x3
  have bb0 := wf_i64 w0
  have bb1 := wf_i64 w1
  have HR := Lib.hid (fun W => rows_any x0 x1 W bb0 bb1)
  have s1 := (widB_bd x0).2.1
  have s2 := (widB_bd x0).2.2
  have m1 := (rowB_bd x1).2.1
  have m2 := (rowB_bd x1).2.2
  generalize widB x0 = s at *
  generalize rowB x1 = m at *
  have hC1 := fun W (hb : Below w.heap.size w W) => came_any a len cap L 1000 W (t2.below hb) (fun z hz => ⟨(o2 z hz).1.below hb, (o2 z hz).2.2⟩) (by decide) (by decide)
  have hC2 := fun W (hb : Below w.heap.size w W) => came_any b len2 cap2 M 1000 W (t3.below hb) (fun z hz => ⟨(o3 z hz).1.below hb, (o3 z hz).2.2⟩) (by decide) (by decide)
  have pC := of_nonneg (most := 1000) (by decide) ((L.take 60).map (fun s => s.l))
  have pD := of_nonneg (most := 1000) (by decide) ((M.take 60).map (fun s => s.l))
  have sC := of_sum (most := 1000) (by decide) (by decide) (L := (L.take 60).map (fun s => s.l)) (by rw [List.length_map, List.length_take]; omega)
  have sD := of_sum (most := 1000) (by decide) (by decide) (L := (M.take 60).map (fun s => s.l)) (by rw [List.length_map, List.length_take]; omega)
  have lC := of_len 1000 ((L.take 60).map (fun s => s.l))
  have lD := of_len 1000 ((M.take 60).map (fun s => s.l))
  rw [List.length_map, List.length_take] at lC lD
  have lC2 : (of 1000 ((L.take 60).map (fun s => s.l))).length ≤ 60 := by omega
  have lD2 : (of 1000 ((M.take 60).map (fun s => s.l))).length ≤ 60 := by omega
  generalize of 1000 ((L.take 60).map (fun s => s.l)) = C at *
  generalize of 1000 ((M.take 60).map (fun s => s.l)) = D at *
  have pCD : ∀ p ∈ C ++ D, 0 ≤ p.2 := fun p hp => by rcases List.mem_append.1 hp with h | h; exact pC p h; exact pD p h
  have pDC : ∀ p ∈ D ++ C, 0 ≤ p.2 := fun p hp => by rcases List.mem_append.1 hp with h | h; exact pD p h; exact pC p h
  have sCD : sumN (C ++ D) ≤ 1000000000000 := by rw [sumN_append]; omega
  have sDC : sumN (D ++ C) ≤ 1000000000000 := by rw [sumN_append]; omega
  have zg := zero_good s1 s2 m1 m2
  have HCNT : Hid (∀ (E : List (Int × Int)), (∀ p ∈ E, 0 ≤ p.2) → sumN E ≤ 1000000000000 → ∀ (W : World) (P : Nat → Prop) (a' q : Option Addr) (c' n c : Nat), TTx W P a' m c' (zeroR s m) → Tab W q n c 2 (E.map iiC) → Calls Try.prog 29 #[.agg #[.int .i64 s, .slice a' m c'], .slice q n c] W fun e w' => ∃ (a' : Option Addr) (c' : Nat), e = .returned (.tuple #[.agg #[.int .i64 s, .slice a' m c'], .bool true]) ∧ TTx w' anyB a' m c' (allR s E (zeroR s m)) ∧ Below W.heap.size W w') := Lib.hid (fun E hp hs W P a' q c' n c h1 h2 => counted_any s a' q m c' n c (zeroR s m) E P 0 W h1 h2 zg (zero_most s m) (by decide) hp (by omega))
  have gA := all_zero_good s1 s2 m1 m2 pC (by omega)
  have gB := all_zero_good s1 s2 m1 m2 pD (by omega)
  have gF := all_zero_good s1 s2 m1 m2 pCD sCD
  have HCA := Lib.hid (HCNT.out C pC (by omega))
  have HCB := Lib.hid (HCNT.out D pD (by omega))
  have HCC := Lib.hid (HCNT.out (C ++ D) pCD sCD)
  have hCO := HCNT.out (D ++ C) pDC sDC
  rw [all_comm] at hCO
  have HCO := Lib.hid hCO
  have j1 := all_join s m C D
  have j2 := all_join2 s m C D
  generalize allR s C (zeroR s m) = RA at *
  generalize allR s D (zeroR s m) = RB at *
  generalize allR s (C ++ D) (zeroR s m) = RF at *
  have hJ1 := fun W P P2 a' c' b' d' (h1 : TTx W P a' m c' RA) (h2 : TTx W P2 b' m d' RB) => tjoin_fine s a' b' m c' d' RA RB P P2 W h1 h2 gA gB (by rw [j1]; exact good_fits gF)
  have hJ2 := fun W P P2 a' c' b' d' (h1 : TTx W P a' m c' RB) (h2 : TTx W P2 b' m d' RA) => tjoin_fine s a' b' m c' d' RB RA P P2 W h1 h2 gB gA (by rw [j2]; exact good_fits gF)
  rw [j1] at hJ1
  rw [j2] at hJ2
  have HJ1 := Lib.hid hJ1
  have HJ2 := Lib.hid hJ2
  have HSM := Lib.hid (fun W P P2 a' c' b' d' (h1 : TTx W P a' m c' RF) (h2 : TTx W P2 b' m d' RF) => sameT_any s s a' b' m c' m d' RF RF P P2 W h1 h2 true (by simp))
  have HC1 := Lib.hid hC1
  have HC2 := Lib.hid hC2
  have HLL := Lib.hid (And.intro lC2 lD2)
  have h3 := tt_two w 3 2
  have hb1 : Below w.heap.size w (((w.alloc (.cells #[.int .i64 3] 3)).alloc (.cells #[.int .i64 2] 3)).alloc (.cells #[.slice (some ⟨w.heap.size, 0, none⟩) 1 1, .slice (some ⟨w.heap.size + 1, 0, none⟩) 1 1] 34)) := (((Below.refl _ _).alloc (Nat.le_refl _) _).alloc (by simp) _).alloc (by simp; omega) _
  have C0 := task_ok 1 5 (some ⟨w.heap.size + 2, 0, none⟩) 2 2 [[3], [2]] anyB _ h3 (good_two (by decide) (by decide))
  rw [ask_two (by decide) (by decide)] at C0
  have HC0 := Lib.hid C0
  have HB1 := Lib.hid hb1
  clear hC1 hC2 pC pD sC sD lC lD lC2 lD2 pCD pDC sCD sDC zg gA gB gF hCO j1 j2 hJ1 hJ2 HCNT h3 hb1 C0 t2 t3 o2 o3 b2 b3 bb0 bb1 w0 w1
  go_enter Try.func6, Try.ntmps6
  go_wp2_with fail
  refine HC0.out.mono ?_
  rintro e v1 ⟨rfl, hb⟩
  have HB2 := Lib.hid (below_on HB1.out hb)
  clear hb HC0 HB1
  go_wp2_with fail
  refine (HC1.out _ HB2.out).mono ?_
  rintro e v2 ⟨q1, rfl, hO, hb⟩
  obtain ⟨qa, qn, qc, rfl, hTC⟩ := tab_of_own hO
  have HTC := Lib.hid hTC
  have HB3 := Lib.hid (below_on HB2.out hb)
  clear hb hO hTC HC1 HB2
  go_wp2_with fail
  refine (HC2.out _ HB3.out).mono ?_
  rintro e v3 ⟨q2, rfl, hO, hb⟩
  obtain ⟨ra, rn, rc, rfl, hTD⟩ := tab_of_own hO
  have HTD := Lib.hid hTD
  replace HTC := Lib.hid (HTC.out.below hb)
  have HB4 := Lib.hid (below_on HB3.out hb)
  clear hb hO hTD HC2 HB3
  -- a
  go_wp2_with fail
  refine (HR.out _).mono ?_
  rintro e v4 ⟨za, zc, rfl, htt, hb⟩
  have HTT := Lib.hid htt
  replace HTC := Lib.hid (HTC.out.below hb)
  replace HTD := Lib.hid (HTD.out.below hb)
  have HB5 := Lib.hid (below_on HB4.out hb)
  clear hb htt HB4
  go_wp2_with fail
  refine (HCA.out _ _ _ _ _ _ _ HTT.out HTC.out).mono ?_
  rintro e v5 ⟨aA, cA, rfl, htt, hb⟩
  have hz := ST.new (W := s) htt
  replace HTC := Lib.hid ((HTC.out.below hb).below hz.2)
  replace HTD := Lib.hid ((HTD.out.below hb).below hz.2)
  have HB6 := Lib.hid (below_on (below_on HB5.out hb) hz.2)
  obtain ⟨v6, hv⟩ : ∃ v, v5.alloc (.cells #[.int .i64 s, .slice aA m cA] 39) = v := ⟨_, rfl⟩
  rw [hv] at hz HTC HTD HB6
  obtain ⟨XA, hX⟩ : ∃ X, v5.heap.size = X := ⟨_, rfl⟩
  rw [hX] at hz
  have SA := Lib.hid hz.1
  have HVX := Lib.hid (And.intro hv hX)
  clear hb htt hz hv hX HTT HCA HB5
  go_upto_region 7 with fail
  rw [HVX.out.1, HVX.out.2]
  clear HVX
  -- b
  go_wp2_with fail
  refine (HR.out _).mono ?_
  rintro e v7 ⟨zb, zd, rfl, htt, hb⟩
  have HTT := Lib.hid htt
  replace HTC := Lib.hid (HTC.out.below hb)
  replace HTD := Lib.hid (HTD.out.below hb)
  replace SA := Lib.hid (SA.out.below hb)
  have HB7 := Lib.hid (below_on HB6.out hb)
  clear hb htt HB6
  go_wp2_with fail
  refine (HCB.out _ _ _ _ _ _ _ HTT.out HTD.out).mono ?_
  rintro e v8 ⟨aB, cB, rfl, htt, hb⟩
  have hz := ST.new (W := s) htt
  replace HTC := Lib.hid ((HTC.out.below hb).below hz.2)
  replace HTD := Lib.hid ((HTD.out.below hb).below hz.2)
  replace SA := Lib.hid ((SA.out.below hb).below hz.2)
  have HB8 := Lib.hid (below_on (below_on HB7.out hb) hz.2)
  obtain ⟨v9, hv⟩ : ∃ v, v8.alloc (.cells #[.int .i64 s, .slice aB m cB] 39) = v := ⟨_, rfl⟩
  rw [hv] at hz HTC HTD HB8 SA
  obtain ⟨XB, hX⟩ : ∃ X, v8.heap.size = X := ⟨_, rfl⟩
  rw [hX] at hz
  have SB := Lib.hid hz.1
  have HVX := Lib.hid (And.intro hv hX)
  clear hb htt hz hv hX HTT HCB HB7
  go_upto_region 8 with fail
  rw [HVX.out.1, HVX.out.2]
  clear HVX
  -- all
  go_wp2_with fail
  refine (HR.out _).mono ?_
  rintro e v10 ⟨zf, zg, rfl, htt, hb⟩
  have hal : Below v10.heap.size v10 (v10.alloc (.cells #[.slice qa qn qc, .slice ra rn rc] 52)) := (Below.refl _ _).alloc (Nat.le_refl _) _
  have hCon := concat_counters (some ⟨v10.heap.size, 0, none⟩) 2 2 [⟨qa, qn, qc, C⟩, ⟨ra, rn, rc, D⟩] _ (lit_two v10 52 qa ra qn qc rn rc C D) (fun t ht => by
    rcases List.mem_cons.1 ht with rfl | ht
    · exact (HTC.out.below hb).below hal
    · rw [List.mem_singleton] at ht; subst ht; exact (HTD.out.below hb).below hal) (by
    have e1 : C.length = qn := by have h := HTC.out.hlen; rw [List.length_map] at h; exact h
    have e2 : D.length = rn := by have h := HTD.out.hlen; rw [List.length_map] at h; exact h
    have h1 := HLL.out.1
    have h2 := HLL.out.2
    simp only [List.map_cons, List.map_nil, List.sum_cons, List.sum_nil]
    omega)
  rw [show ([⟨qa, qn, qc, C⟩, ⟨ra, rn, rc, D⟩] : List (Sl (Int × Int))).flatMap (fun s => s.l) = C ++ D from by simp] at hCon
  have HCon := Lib.hid hCon
  have HTT := Lib.hid (htt.below hal)
  replace HTC := Lib.hid ((HTC.out.below hb).below hal)
  replace HTD := Lib.hid ((HTD.out.below hb).below hal)
  replace SA := Lib.hid ((SA.out.below hb).below hal)
  replace SB := Lib.hid ((SB.out.below hb).below hal)
  have HB9 := Lib.hid (below_on (below_on HB8.out hb) hal)
  clear hb htt hCon hal HB8
  go_wp2_with fail
  refine HCon.out.mono ?_
  rintro e v11 ⟨q3, rfl, hO, hb⟩
  obtain ⟨fa, fn, fc, rfl, hTF⟩ := tab_of_own hO
  have HTF := Lib.hid hTF
  replace HTT := Lib.hid (HTT.out.below hb)
  replace HTC := Lib.hid (HTC.out.below hb)
  replace HTD := Lib.hid (HTD.out.below hb)
  replace SA := Lib.hid (SA.out.below hb)
  replace SB := Lib.hid (SB.out.below hb)
  have HB10 := Lib.hid (below_on HB9.out hb)
  clear hb hO hTF HCon HB9
  go_wp2_with fail
  refine (HCC.out _ _ _ _ _ _ _ HTT.out HTF.out).mono ?_
  rintro e v12 ⟨aF, cF, rfl, htt, hb⟩
  have hz := ST.new (W := s) htt
  replace HTC := Lib.hid ((HTC.out.below hb).below hz.2)
  replace HTD := Lib.hid ((HTD.out.below hb).below hz.2)
  replace SA := Lib.hid ((SA.out.below hb).below hz.2)
  replace SB := Lib.hid ((SB.out.below hb).below hz.2)
  have HB11 := Lib.hid (below_on (below_on HB10.out hb) hz.2)
  obtain ⟨v13, hv⟩ : ∃ v, v12.alloc (.cells #[.int .i64 s, .slice aF m cF] 39) = v := ⟨_, rfl⟩
  rw [hv] at hz HTC HTD HB11 SA SB
  obtain ⟨XF, hX⟩ : ∃ X, v12.heap.size = X := ⟨_, rfl⟩
  rw [hX] at hz
  have SF := Lib.hid hz.1
  have HVX := Lib.hid (And.intro hv hX)
  clear hb htt hz hv hX HTT HTF HCC HB10
  go_upto_region 9 with fail
  rw [HVX.out.1, HVX.out.2]
  clear HVX
  -- other
  go_wp2_with fail
  refine (HR.out _).mono ?_
  rintro e v14 ⟨zo, zp, rfl, htt, hb⟩
  have hal : Below v14.heap.size v14 (v14.alloc (.cells #[.slice ra rn rc, .slice qa qn qc] 52)) := (Below.refl _ _).alloc (Nat.le_refl _) _
  have hCon := concat_counters (some ⟨v14.heap.size, 0, none⟩) 2 2 [⟨ra, rn, rc, D⟩, ⟨qa, qn, qc, C⟩] _ (lit_two v14 52 ra qa rn rc qn qc D C) (fun t ht => by
    rcases List.mem_cons.1 ht with rfl | ht
    · exact (HTD.out.below hb).below hal
    · rw [List.mem_singleton] at ht; subst ht; exact (HTC.out.below hb).below hal) (by
    have e1 : C.length = qn := by have h := HTC.out.hlen; rw [List.length_map] at h; exact h
    have e2 : D.length = rn := by have h := HTD.out.hlen; rw [List.length_map] at h; exact h
    have h1 := HLL.out.1
    have h2 := HLL.out.2
    simp only [List.map_cons, List.map_nil, List.sum_cons, List.sum_nil]
    omega)
  rw [show ([⟨ra, rn, rc, D⟩, ⟨qa, qn, qc, C⟩] : List (Sl (Int × Int))).flatMap (fun s => s.l) = D ++ C from by simp] at hCon
  have HCon := Lib.hid hCon
  have HTT := Lib.hid (htt.below hal)
  replace SA := Lib.hid ((SA.out.below hb).below hal)
  replace SB := Lib.hid ((SB.out.below hb).below hal)
  replace SF := Lib.hid ((SF.out.below hb).below hal)
  have HB12 := Lib.hid (below_on (below_on HB11.out hb) hal)
  clear hb htt hCon hal HB11 HTC HTD
  go_wp2_with fail
  refine HCon.out.mono ?_
  rintro e v15 ⟨q3, rfl, hO, hb⟩
  obtain ⟨fa, fn, fc, rfl, hTF⟩ := tab_of_own hO
  have HTF := Lib.hid hTF
  replace HTT := Lib.hid (HTT.out.below hb)
  replace SA := Lib.hid (SA.out.below hb)
  replace SB := Lib.hid (SB.out.below hb)
  replace SF := Lib.hid (SF.out.below hb)
  have HB13 := Lib.hid (below_on HB12.out hb)
  clear hb hO hTF HCon HB12
  go_wp2_with fail
  refine (HCO.out _ _ _ _ _ _ _ HTT.out HTF.out).mono ?_
  rintro e v16 ⟨aO, cO, rfl, htt, hb⟩
  have hz := ST.new (W := s) htt
  replace SA := Lib.hid ((SA.out.below hb).below hz.2)
  replace SB := Lib.hid ((SB.out.below hb).below hz.2)
  replace SF := Lib.hid ((SF.out.below hb).below hz.2)
  have HB14 := Lib.hid (below_on (below_on HB13.out hb) hz.2)
  obtain ⟨v17, hv⟩ : ∃ v, v16.alloc (.cells #[.int .i64 s, .slice aO m cO] 39) = v := ⟨_, rfl⟩
  rw [hv] at hz HB14 SA SB SF
  obtain ⟨XO, hX⟩ : ∃ X, v16.heap.size = X := ⟨_, rfl⟩
  rw [hX] at hz
  have SO := Lib.hid hz.1
  have HVX := Lib.hid (And.intro hv hX)
  clear hb htt hz hv hX HTT HTF HCO HB13 HR
  go_upto_region 10 with fail
  rw [HVX.out.1, HVX.out.2]
  clear HVX
  -- x
  obtain ⟨c0, c1⟩ := SA.out.cells
  obtain ⟨d0, d1⟩ := SB.out.cells
  go_wp2_with fail
  clear c0 c1 d0 d1
  refine (HJ1.out _ _ _ _ _ _ _ SA.out.2 SB.out.2).mono ?_
  rintro e v18 ⟨aX, cX, rfl, htt, hb⟩
  have hz := ST.new (W := s) htt
  replace SA := Lib.hid ((SA.out.below hb).below hz.2)
  replace SB := Lib.hid ((SB.out.below hb).below hz.2)
  replace SF := Lib.hid ((SF.out.below hb).below hz.2)
  replace SO := Lib.hid ((SO.out.below hb).below hz.2)
  have HB15 := Lib.hid (below_on (below_on HB14.out hb) hz.2)
  obtain ⟨v19, hv⟩ : ∃ v, v18.alloc (.cells #[.int .i64 s, .slice aX m cX] 39) = v := ⟨_, rfl⟩
  rw [hv] at hz HB15 SA SB SF SO
  obtain ⟨XX, hX⟩ : ∃ X, v18.heap.size = X := ⟨_, rfl⟩
  rw [hX] at hz
  have SX := Lib.hid hz.1
  have HVX := Lib.hid (And.intro hv hX)
  clear hb htt hz hv hX HB14 HJ1
  go_upto_region 11 with fail
  rw [HVX.out.1, HVX.out.2]
  clear HVX
  -- y
  obtain ⟨c0, c1⟩ := SB.out.cells
  obtain ⟨d0, d1⟩ := SA.out.cells
  go_wp2_with fail
  clear c0 c1 d0 d1
  refine (HJ2.out _ _ _ _ _ _ _ SB.out.2 SA.out.2).mono ?_
  rintro e v20 ⟨aY, cY, rfl, htt, hb⟩
  have hz := ST.new (W := s) htt
  replace SF := Lib.hid ((SF.out.below hb).below hz.2)
  replace SO := Lib.hid ((SO.out.below hb).below hz.2)
  replace SX := Lib.hid ((SX.out.below hb).below hz.2)
  have HB16 := Lib.hid (below_on (below_on HB15.out hb) hz.2)
  obtain ⟨v21, hv⟩ : ∃ v, v20.alloc (.cells #[.int .i64 s, .slice aY m cY] 39) = v := ⟨_, rfl⟩
  rw [hv] at hz HB16 SF SO SX
  obtain ⟨XY, hX⟩ : ∃ X, v20.heap.size = X := ⟨_, rfl⟩
  rw [hX] at hz
  have SY := Lib.hid hz.1
  have HVX := Lib.hid (And.intro hv hX)
  clear hb htt hz hv hX HB15 HJ2 SA SB
  go_upto_region 12 with fail
  rw [HVX.out.1, HVX.out.2]
  clear HVX
  obtain ⟨c0, c1⟩ := SX.out.cells
  obtain ⟨d0, d1⟩ := SF.out.cells
  go_wp2_with fail
  clear c0 c1 d0 d1
  refine (HSM.out _ _ _ _ _ _ _ SX.out.2 SF.out.2).mono ?_
  rintro e z1 ⟨rfl, hb⟩
  replace SF := Lib.hid (SF.out.below hb)
  replace SO := Lib.hid (SO.out.below hb)
  replace SY := Lib.hid (SY.out.below hb)
  have HB17 := Lib.hid (below_on HB16.out hb)
  clear hb HB16 SX
  obtain ⟨c0, c1⟩ := SY.out.cells
  obtain ⟨d0, d1⟩ := SF.out.cells
  go_wp2_with fail
  clear c0 c1 d0 d1
  refine (HSM.out _ _ _ _ _ _ _ SY.out.2 SF.out.2).mono ?_
  rintro e z2 ⟨rfl, hb⟩
  replace SF := Lib.hid (SF.out.below hb)
  replace SO := Lib.hid (SO.out.below hb)
  have HB18 := Lib.hid (below_on HB17.out hb)
  clear hb HB17 SY
  obtain ⟨c0, c1⟩ := SO.out.cells
  obtain ⟨d0, d1⟩ := SF.out.cells
  go_wp2_with fail
  clear c0 c1 d0 d1
  refine (HSM.out _ _ _ _ _ _ _ SO.out.2 SF.out.2).mono ?_
  rintro e z3 ⟨rfl, hb⟩
  have HB19 := Lib.hid (below_on HB18.out hb)
  clear hb HB18
  go_wp2
  go_ret
  exact ⟨rfl, HB19.out⟩

set_option maxRecDepth 100000 in
theorem lifted (os : Os) (started : os.Started) (H : Type) (enc : TypeId × Value → H) :
    ReturnsInHanded {} Try.checked os 6 .any (Rows.tableJoinsSpec.pre6 enc Try.prog Try.f6 Rows.tableJoinsRow.domain false) (Rows.tableJoinsSpec.post enc Try.prog Try.f6 false true false false) := by
  refine returnsInHanded_of_change_sized (C := Try.checked) own started (by kernel_rfl) Try.func6
    (ChangeSpec.witness6 (enc := enc) (C := Try.checked) false ⟨#[], #[.int .i64 0, .int .i64 0, .slice none 0 0, .slice none 0 0], []⟩ 8 (by kernel_rfl) (by kernel_rfl) (by kernel_rfl) (by kernel_rfl)) ?_
  intro W base args ds gs before hval0 hW hcnd hsz0 _
  have hval : ∀ (j : Nat) t v, Try.f6.params[j]? = some t → args[j]? = some v → Value.okWide Try.prog W .any base t v := hval0
  have hW' := hW
  obtain ⟨p, q, hA0, hV, rfl, hfz, hnd⟩ := hW
  have hA : DataW.TrodAll enc Try.prog W 0 (fun _ => true) true Try.f6.params.toList args.toList ds p := hA0
  have hsz : (DataW.weightsEach Try.prog (Try.f6.params.toList ++ Rows.tableJoinsSpec.plain.varTypes Try.prog) (ds ++ gs)).all (· ≤ reachBytes) = true := hsz0
  rw [Try.params6] at hA hval hsz
  obtain ⟨v0, vs0, d0, ds0, p0, q0, hargs, rfl, rfl, h0, r0⟩ := trodAll_cons hA
  obtain ⟨v1, vs1, d1, ds1, p1, q1, rfl, rfl, rfl, h1, r1⟩ := trodAll_cons r0
  obtain ⟨v2, vs2, d2, ds2, p2, q2, rfl, rfl, rfl, h2, r2⟩ := trodAll_cons r1
  obtain ⟨v3, vs3, d3, ds3, p3, q3, rfl, rfl, rfl, h3, r3⟩ := trodAll_cons r2
  obtain ⟨rfl, rfl, rfl⟩ := trodAll_nil r3
  obtain rfl : args = #[v0, v1, v2, v3] := by cases args; simp_all
  obtain ⟨rfl, rfl⟩ := trodVars_none hV
  have k0 := h0
  have L0 := light_of hsz (j := 0) (t := 3) (d := d0) rfl rfl
  have lt0 : ∀ x ∈ p0, x.block < W.heap.size := by obtain ⟨m, hm⟩ := k0; exact DataW.trod_lt m _ _ _ hm
  obtain ⟨x0, rfl, rfl, rfl, w0⟩ := open_int Try.underlying3 (hval 0 3 v0 rfl rfl) h0
  have k1 := h1
  have L1 := light_of hsz (j := 1) (t := 3) (d := d1) rfl rfl
  have lt1 : ∀ x ∈ p1, x.block < W.heap.size := by obtain ⟨m, hm⟩ := k1; exact DataW.trod_lt m _ _ _ hm
  obtain ⟨x1, rfl, rfl, rfl, w1⟩ := open_int Try.underlying3 (hval 1 3 v1 rfl rfl) h1
  have k2 := h2
  have L2 := light_of hsz (j := 2) (t := 37) (d := d2) rfl rfl
  have lt2 : ∀ x ∈ p2, x.block < W.heap.size := by obtain ⟨m, hm⟩ := k2; exact DataW.trod_lt m _ _ _ hm
  obtain ⟨a2, len2, cap2, rfl⟩ := okWide_slice Try.underlying37 (hval 2 37 v2 rfl rfl)
  obtain ⟨n2, f2⟩ := trod_slice_of Try.underlying37 h2
  have F2 := And.intro f2 L2
  obtain ⟨x2, e2, t2, b2, o2⟩ := el_slice (w := W) (k := 1) slC (fun y : Sl Int => Tab W y.a y.len y.cap 1 (y.l.map iC) ∧ y.len * 8 ≤ 140737488351232 ∧ ∀ z ∈ y.l, wfI z) (by decide) Try.underlying37 (by kernel_rfl) (el_slice (k := 1) iC wfI (by decide) Try.underlying34 (by kernel_rfl) (el_int Try.underlying3) (B := 8) (by kernel_rfl)) (B := 24) (by kernel_rfl) _ _ _ F2.1 F2.2
  simp only [slC, List.cons.injEq, Value.slice.injEq, and_true] at e2
  obtain ⟨rfl, rfl, rfl⟩ := e2
  have k3 := h3
  have L3 := light_of hsz (j := 3) (t := 37) (d := d3) rfl rfl
  have lt3 : ∀ x ∈ p3, x.block < W.heap.size := by obtain ⟨m, hm⟩ := k3; exact DataW.trod_lt m _ _ _ hm
  obtain ⟨a3, len3, cap3, rfl⟩ := okWide_slice Try.underlying37 (hval 3 37 v3 rfl rfl)
  obtain ⟨n3, f3⟩ := trod_slice_of Try.underlying37 h3
  have F3 := And.intro f3 L3
  obtain ⟨x3, e3, t3, b3, o3⟩ := el_slice (w := W) (k := 1) slC (fun y : Sl Int => Tab W y.a y.len y.cap 1 (y.l.map iC) ∧ y.len * 8 ≤ 140737488351232 ∧ ∀ z ∈ y.l, wfI z) (by decide) Try.underlying37 (by kernel_rfl) (el_slice (k := 1) iC wfI (by decide) Try.underlying34 (by kernel_rfl) (el_int Try.underlying3) (B := 8) (by kernel_rfl)) (B := 24) (by kernel_rfl) _ _ _ F3.1 F3.2
  simp only [slC, List.cons.injEq, Value.slice.injEq, and_true] at e3
  obtain ⟨rfl, rfl, rfl⟩ := e3
  clear hA0 hval0
  refine (walk x0 x1 x2 x3 W w0 w1 t2 b2 o2 t3 b3 o3).mono fun e W' ⟨he, hg⟩ => ?_
  subst he
  exact ⟨_, rfl, _, _, _, [], _, [], hW', trodAll_mk1 (shut_bool Try.underlying4 _), (trodAll_cons_mk (Below.trod laidOut (by kernel_rfl) (of_decide_eq_true (by kernel_rfl)) k0 hg lt0) (trodAll_cons_mk (Below.trod laidOut (by kernel_rfl) (of_decide_eq_true (by kernel_rfl)) k1 hg lt1) (trodAll_cons_mk (Below.trod laidOut (by kernel_rfl) (of_decide_eq_true (by kernel_rfl)) k2 hg lt2) (trodAll_cons_mk (Below.trod laidOut (by kernel_rfl) (of_decide_eq_true (by kernel_rfl)) k3 hg lt3) trodAll_mk0)))), rfl, hg.frame _, fun h => by cases h⟩

theorem over : Rows.tableJoinsRow.holds Try.pinned (OpenSpec.ofChange Rows.tableJoinsSpec) :=
  OpenClaim.holds_of_wide 6 Try.f6 rfl rfl rfl rfl rfl rfl rfl ⟨rfl, rfl, rfl, rfl, rfl⟩ rfl rfl rfl rfl rfl (by kernel_rfl) Try.func6 (by kernel_rfl)
    (of_decide_eq_true (by kernel_rfl)) (by unfold Func.isWrapper; first | (rw [if_pos (by decide +kernel)]; kernel_rfl) | (rw [if_neg (by decide +kernel)]; exact ⟨rfl, rfl⟩))
    (fun os started H enc _ => lifted os started H enc)

/-- ████ THE STATEMENT ████ -/
theorem proved : Rows.TableJoinsSaid :=
  over
#print axioms proved
end Go.Proofs.Ytcfejbhoeichnaa.tableJoins
