/-
  'Rows.FewJoinsSaid' is proved: whatever is handed in, Join and Most answer what the document says. No condition.
-/
import Derived.Test.YtffgoekdjcempaaGreatRows
import Derived.Test.YtffgoekdjcempaaGreatShapes
import Derived.Test.YtffgoekdjcempaaGreatFewVar
import Derived.Test.YtffgoekdjcempaaGreatFewJoinP
import Derived.Test.YtffgoekdjcempaaGreatFewMostP
import Derived.Test.YtffgoekdjcempaaGreatRefMost
import Derived.Test.YtffgoekdjcempaaGreatRefFewSame
import Derived.Test.YtffgoekdjcempaaGreatRefCounts
import Derived.Test.YtffgoekdjcempaaGreatFewer
import Derived.Test.YtffgoekdjcempaaGreatConcatCounters
import Derived.Test.YtffgoekdjcempaaGreatLit
import Derived.Deep.DeepCutAuto
import Derived.Deep.RegionHeldLaw
import Derived.Deep.RegionHeld3
import Derived.Deep.RegionWith
import Derived.WalkKit
import Derived.ProofKit
import Derived.OpenShut
import Derived.ShutString
import Derived.ChangeOld
import Derived.Below
namespace Go.Proofs.YtffgoekdjcempaaGreat.fewJoins
open Go.ChangeShapes Go.WideShapes Go.ChangeAt Go.RowKit
open Go.ChangeMaps (open_string shut_string)
set_option linter.unusedVariables false

theorem own : ownKnob Tryz.prog.godebug = none := by kernel_rfl
theorem laidOut : laidOutB Tryz.prog = true := by kernel_rfl

--BEATS
open Few
theorem nil_ctrs (w : World) : Tab w none 0 0 2 (([] : List (Int × Int)).map iiC) := (Own.nil w 0 37 2).tab_of
theorem fewE_none : fewE 0 0 [] = 1 := fewE_arg (by omega)
theorem sum_bd : ∀ {C : List (Int × Int)}, (∀ p ∈ C, 1 ≤ p.2 ∧ p.2 ≤ 1000000000000) → Came.sumN C ≤ 1000000000000 * C.length
  | [], _ => by simp [Came.sumN]
  | p :: C, h => by
    have h1 := h p (by simp)
    have h2 := sum_bd (C := C) (fun q hq => h q (by simp [hq]))
    have e : Came.sumN (p :: C) = p.2 + Came.sumN C := by simp [Came.sumN]
    rw [e, List.length_cons]
    omega
theorem tab_held {W : World} {X n : Nat} {cs : Array Value} {R : List (List Value)} {t : TypeId} (hX : W.heap[X]? = some (.cells cs t (0, 0))) (hr : ∀ r ∈ R, r.length = 1) (hc : cs.toList = R.flatten := by rfl) (hn : R.length = n := by rfl) (hm : n ≤ maxLen := by decide) : Tab W (some ⟨X, 0, none⟩) n n 1 R := by
  refine ⟨hn, Nat.le_refl _, hm, fun h => (by cases h), fun _ => ⟨X, 0, rfl, (Array.getElem?_eq_some_iff.1 hX).1, fun i r hri j u hu => ?_⟩⟩
  have h := flatten_get hr hri hu
  rw [← hc] at h
  rw [Nat.zero_add]
  exact cell_blk hX (by rw [← Array.getElem?_toList]; exact h)
/-- a block that holds a sketch of nothing -/
def ZB (v W : World) (i : Nat) : Prop := v.heap.size ≤ i ∧ W.heap[i]? = some (.cells #[.int .i64 0, .int .i64 0, .slice none 0 0] 24 (0, 0))
theorem ZB.new {v W : World} (h : v.heap.size ≤ W.heap.size) : ZB v (W.alloc (.cells #[.int .i64 0, .int .i64 0, .slice none 0 0] 24)) W.heap.size := ⟨h, (MapKept.heap_alloc W _).1⟩
theorem ZB.new1 {v W : World} (o : Obj) (h : v.heap.size ≤ W.heap.size) : ZB v ((W.alloc o).alloc (.cells #[.int .i64 0, .int .i64 0, .slice none 0 0] 24)) (W.heap.size + 1) := by
  have := ZB.new (v := v) (W := W.alloc o) (by simp; omega)
  simpa using this
theorem ZB.lt {v W : World} {i : Nat} (h : ZB v W i) : i < W.heap.size := (Array.getElem?_eq_some_iff.1 h.2).1
theorem ZB.alloc {v W : World} {i : Nat} (h : ZB v W i) (o : Obj) : ZB v (W.alloc o) i := ⟨h.1, (Below.heap_alloc _ _ _ h.lt).trans h.2⟩
theorem ZB.drew {v W : World} {i : Nat} (h : ZB v W i) : ZB v W.drew i := h
theorem ZB.below {v W W' : World} {i : Nat} (h : ZB v W i) (hb : Below W.heap.size W W') : ZB v W' i := ⟨h.1, (hb.block i h.lt).trans h.2⟩
theorem ZB.grown {v W W' : World} {i : Nat} {row : Option Nat} (h : ZB v W i) (hg : W.grownBy W' row) (hne : some i ≠ row) : ZB v W' i := ⟨h.1, (hg.block i h.lt hne).trans h.2⟩
theorem news_alloc {W : World} {N : List Value} {g : Nat} (h : ∀ j u, [N].flatten[j]? = some u → W.cell? ((⟨g, 0, none⟩ : Addr).add j) = some u) (hg : g < W.heap.size) (o : Obj) : ∀ j u, [N].flatten[j]? = some u → (W.alloc o).cell? ((⟨g, 0, none⟩ : Addr).add j) = some u :=
  fun j u hj => (((Below.refl _ _).alloc (Nat.le_refl _) o).cell (by rw [addr_add]; exact hg)).trans (h j u hj)
theorem news_below {W W' : World} {N : List Value} {g : Nat} (h : ∀ j u, [N].flatten[j]? = some u → W.cell? ((⟨g, 0, none⟩ : Addr).add j) = some u) (hg : g < W.heap.size) (hb : Below W.heap.size W W') : ∀ j u, [N].flatten[j]? = some u → W'.cell? ((⟨g, 0, none⟩ : Addr).add j) = some u :=
  fun j u hj => (hb.cell (by rw [addr_add]; exact hg)).trans (h j u hj)
theorem own_apart {w : World} {base : Nat} {e : TypeId} {k : Nat} {v : Value} {R : List (List Value)} (h : Own w base e k v R) {g : Nat} (hg : ∀ b, v.ownBlock = some b → b ≠ g) (i : Nat) (u : Value) : Own (w.setCell ⟨g, i, none⟩ u) base e k v R :=
  h.keptBy (grown_cell w ⟨g, i, none⟩ u) (by
    cases e1 : v.ownBlock with
    | none => exact Or.inl rfl
    | some b => exact Or.inr (fun e2 => hg b e1 (Option.some.inj e2)))
theorem late_own {w : World} {base : Nat} {e : TypeId} {k : Nat} {v : Value} {R : List (List Value)} (h : Own w base e k v R) (o : Obj) (x y u : Value) : Own ((((w.alloc o).setCell ⟨w.heap.size, 0, none⟩ x).setCell ⟨w.heap.size, 1, none⟩ y).setCell ⟨w.heap.size, 2, none⟩ u) base e k v R := by
  have hg : ∀ b, v.ownBlock = some b → b ≠ w.heap.size := fun b hb => by have := (h.own.lt b hb).2; omega
  exact own_apart (own_apart (own_apart (h.alloc o) hg 0 x) hg 1 y) hg 2 u
theorem size_alloc1 (W : World) (o : Obj) : W.heap.size + 1 = (W.alloc o).heap.size := by simp
theorem lt_alloc (W : World) (o : Obj) : W.heap.size < (W.alloc o).heap.size := by simp
theorem lt_alloc2 (W : World) (o p : Obj) : W.heap.size < ((W.alloc o).alloc p).heap.size := by simp; omega
theorem lt_alloc1 (W : World) (o p : Obj) : W.heap.size + 1 < ((W.alloc o).alloc p).heap.size := by simp
theorem out_same {E K L : Int} {C : List (Int × Int)} {K1 L1 K2 L2 : Int} {C1 C2 : List (Int × Int)} (h1 : Out E K L C K1 L1 C1) (h2 : Out E K L C K2 L2 C2) : K1 = K2 ∧ L1 = L2 ∧ C1 = C2 := by
  rcases h1 with ⟨a0, a1, a2, a3⟩ | ⟨a0, a1, a2, a3⟩ <;> rcases h2 with ⟨b0, b1, b2, b3⟩ | ⟨b0, b1, b2, b3⟩
  · exact ⟨a1.trans b1.symm, a2.trans b2.symm, a3.trans b3.symm⟩
  · exact absurd a0 b0
  · exact absurd b0 a0
  · exact ⟨a1.trans b1.symm, a2.trans b2.symm, a3.trans b3.symm⟩

set_option maxRecDepth 100000 in
set_option maxHeartbeats 12000000 in
theorem walk (x0_0 : Int) (x0_1 : Int) (x0_2 : Sl (Int × Int)) (x1_0 : Int) (x1_1 : Int) (x1_2 : Sl (Int × Int)) (x2 : Sl Int) (w : World) (w0_0 : (Lit.int .i64 x0_0).wf = true) (w0_1 : (Lit.int .i64 x0_1).wf = true) (t0_2 : Tab w x0_2.a x0_2.len x0_2.cap 2 (x0_2.l.map iiC)) (b0_2 : x0_2.len * 16 ≤ 140737488351232) (o0_2 : ∀ z ∈ x0_2.l, wfII z) (w1_0 : (Lit.int .i64 x1_0).wf = true) (w1_1 : (Lit.int .i64 x1_1).wf = true) (t1_2 : Tab w x1_2.a x1_2.len x1_2.cap 2 (x1_2.l.map iiC)) (b1_2 : x1_2.len * 16 ≤ 140737488351232) (o1_2 : ∀ z ∈ x1_2.l, wfII z) (t2 : Tab w x2.a x2.len x2.cap 1 (x2.l.map iC)) (b2 : x2.len * 8 ≤ 140737488351232) (o2 : ∀ z ∈ x2.l, wfI z) :
    Calls Tryz.prog 4 #[.agg #[.int .i64 x0_0, .int .i64 x0_1, .slice x0_2.a x0_2.len x0_2.cap], .agg #[.int .i64 x1_0, .int .i64 x1_1, .slice x1_2.a x1_2.len x1_2.cap], .slice x2.a x2.len x2.cap] w fun e w' => e = .returned (.bool true) ∧ Below w.heap.size w w' := by
  obtain ⟨a, len, cap, C⟩ := x0_2
  obtain ⟨b, len2, cap2, D⟩ := x1_2
  obtain ⟨ql, lenl, capl, l⟩ := x2
  simp only at t0_2 o0_2 b0_2 t1_2 o1_2 b1_2 t2 o2 b2
  generalize x0_0 = K at *
  generalize x0_1 = L at *
  generalize x1_0 = K2 at *
  generalize x1_1 = L2 at *
  have hl : C.length = len := by have h := t0_2.hlen; rw [List.length_map] at h; exact h
  have hl2 : D.length = len2 := by have h := t1_2.hlen; rw [List.length_map] at h; exact h
  have hb0 : Below w.heap.size w ((w.alloc (.cells #[.int .i64 K, .int .i64 L, .slice a len cap] 24)).alloc (.cells #[.int .i64 K2, .int .i64 L2, .slice b len2 cap2] 24)) := ((Below.refl _ _).alloc (Nat.le_refl _) _).alloc (by simp) _
  have k1 : ((w.alloc (.cells #[.int .i64 K, .int .i64 L, .slice a len cap] 24)).alloc (.cells #[.int .i64 K2, .int .i64 L2, .slice b len2 cap2] 24)).heap[w.heap.size]? = some (.cells #[.int .i64 K, .int .i64 L, .slice a len cap] 24 (0, 0)) := by
    rw [Below.heap_alloc _ _ _ (by simp)]
    exact (MapKept.heap_alloc w _).1
  have k2 : ((w.alloc (.cells #[.int .i64 K, .int .i64 L, .slice a len cap] 24)).alloc (.cells #[.int .i64 K2, .int .i64 L2, .slice b len2 cap2] 24)).heap[w.heap.size + 1]? = some (.cells #[.int .i64 K2, .int .i64 L2, .slice b len2 cap2] 24 (0, 0)) := by
    have := (MapKept.heap_alloc (w.alloc (.cells #[.int .i64 K, .int .i64 L, .slice a len cap] 24)) (.cells #[.int .i64 K2, .int .i64 L2, .slice b len2 cap2] 24)).1
    simpa using this
  have T1 := t0_2.below hb0
  have T2 := t1_2.below hb0
  have T3 := t2.below hb0
  have C0 := fewJoin_any K L a len cap C K2 L2 b len2 cap2 D _ T1 T2
  obtain ⟨v0, hv0⟩ : ∃ v, (w.alloc (.cells #[.int .i64 K, .int .i64 L, .slice a len cap] 24)).alloc (.cells #[.int .i64 K2, .int .i64 L2, .slice b len2 cap2] 24) = v := ⟨_, rfl⟩
  rw [hv0] at hb0 k1 k2 C0 T1 T2 T3
  unfold fewV at C0
  have HV := Lib.hid hv0
  have HB0 := Lib.hid hb0
  have SF : Hid (FV v0 w.heap.size K L a len cap C) := Lib.hid ⟨k1, T1⟩
  have SG : Hid (FV v0 (w.heap.size + 1) K2 L2 b len2 cap2 D) := Lib.hid ⟨k2, T2⟩
  have TL := Lib.hid T3
  have HL := Lib.hid hl
  have HL2 := Lib.hid hl2
  have HWF := Lib.hid o0_2
  have HWG := Lib.hid o1_2
  have CP := Lib.hid C0
  obtain ⟨JE, hJE⟩ : ∃ JE, joinE K L C K2 L2 D = JE := ⟨_, rfl⟩
  rw [hJE] at CP
  have HJE := Lib.hid hJE
  clear hb0 k1 k2 T1 T2 T3 hv0 t0_2 o0_2 b0_2 t1_2 o1_2 b1_2 t2 o2 b2 hl hl2 w0_0 w0_1 w1_0 w1_1 C0 hJE
  go_enter Tryz.func4, Tryz.ntmps4
  go_upto_region 1 with fail
  rw [HV.out]
  obtain ⟨X, hX⟩ : ∃ X, w.heap.size = X := ⟨_, rfl⟩
  have HX := Lib.hid hX
  rw [hX] at SF SG ⊢
  clear HV hX
  obtain ⟨c0, d0, e0⟩ := SF.out.cells
  obtain ⟨c1, d1, e1⟩ := SG.out.cells
  go_wp2_with fail
  clear c0 d0 e0 c1 d1 e1
  refine CP.out.mono ?_
  rintro e u1 ⟨JK, JL, JC, vJ, rfl, hOut, hOJ, hb⟩
  obtain ⟨aJ, cJ, rfl, hTJ⟩ := own_ctrs hOJ rfl
  obtain ⟨nJ, hnJ⟩ : ∃ m, JC.length = m := ⟨_, rfl⟩
  rw [hnJ] at hTJ ⊢
  replace SF := Lib.hid (SF.out.below hb)
  replace SG := Lib.hid (SG.out.below hb)
  replace TL := Lib.hid (TL.out.below hb)
  have hXu : X + 1 < u1.heap.size := (Array.getElem?_eq_some_iff.1 SG.out.1).1
  have hz := FV.new (K := JK) (L := JL) hTJ
  replace SF := Lib.hid (SF.out.below hz.2)
  replace SG := Lib.hid (SG.out.below hz.2)
  replace TL := Lib.hid (TL.out.below hz.2)
  have HB1 := Lib.hid (below_on (below_on HB0.out hb) hz.2)
  obtain ⟨v2, hv2⟩ : ∃ v, u1.alloc (.cells #[.int .i64 JK, .int .i64 JL, .slice aJ nJ cJ] 24) = v := ⟨_, rfl⟩
  rw [hv2] at SF SG TL HB1 hz
  obtain ⟨Y, hY⟩ : ∃ Y, u1.heap.size = Y := ⟨_, rfl⟩
  rw [hY] at hz hXu
  have SY := Lib.hid hz.1
  have HVX := Lib.hid (And.intro hv2 hY)
  have HOut := Lib.hid hOut
  have hXw : w.heap.size ≤ X := by rw [HX.out]; exact Nat.le_refl _
  have hal : Below v2.heap.size v2 (v2.alloc (.cells #[.int .i64 5, .int .i64 4, .int .i64 5] 3)) := (Below.refl _ _).alloc (Nat.le_refl _) _
  have CM5 := Lib.hid (fewMost_any (some ⟨v2.heap.size, 0, none⟩) 3 3 [5, 4, 5] _ (tab_lit v2 3 1 3 ([(5 : Int), 4, 5].map iC) #[.int .i64 5, .int .i64 4, .int .i64 5] rfl rfl (rows_of iC_len _) (by decide) _ rfl) (by decide))
  rw [show mostN [5, 4, 5] = 5 from by decide, show mostB [5, 4, 5] = true from by decide] at CM5
  have HAL := Lib.hid hal
  obtain ⟨mn, mb, me, CM, HM1, HM2⟩ : ∃ (mn : Int) (mb : Bool) (me : Int), Hid (∀ W, Tab W ql lenl capl 1 (l.map iC) → Calls Tryz.prog 14 #[.slice ql lenl capl] W fun e w' => e = .returned (.tuple #[.int .i64 mn, .bool mb, .int .i64 me]) ∧ w' = W) ∧ Hid (40 < lenl → mn = 0 ∧ mb = false ∧ me = 2) ∧ Hid (¬ 40 < lenl → mn = mostN l ∧ mb = mostB l ∧ me = 0) := by
    by_cases h40 : 40 < lenl
    · exact ⟨0, false, 2, Lib.hid (fun W _ => fewMost_large ql lenl capl W h40), Lib.hid (fun _ => ⟨rfl, rfl, rfl⟩), Lib.hid (fun h => absurd h40 h)⟩
    · exact ⟨mostN l, mostB l, 0, Lib.hid (fun W hT => fewMost_any ql lenl capl l W hT (by omega)), Lib.hid (fun h => absurd h h40), Lib.hid (fun _ => ⟨rfl, rfl, rfl⟩)⟩
  clear hz hb hOJ hTJ hv2 hY HB0 CP hOut hnJ hal
  go_upto_region 2 with fail
  rw [HVX.out.1, HVX.out.2]
  clear HVX
  go_wp2_with fail
  refine (CM.out _ TL.out).mono ?_
  rintro e v3 ⟨rfl, hv3⟩
  rw [hv3]
  clear hv3 CM
  go_upto_region 6 with (go_at_call 14; refine CM5.out.mono ?_; rintro e v4 ⟨rfl, hv4⟩; rw [hv4]; clear hv4)
  have HB4 := Lib.hid (below_on HB1.out HAL.out)
  replace SF := Lib.hid (SF.out.below HAL.out)
  replace SG := Lib.hid (SG.out.below HAL.out)
  replace SY := Lib.hid (SY.out.below HAL.out)
  replace TL := Lib.hid (TL.out.below HAL.out)
  clear CM5 HAL HB1
  generalize v2.alloc (.cells #[.int .i64 5, .int .i64 4, .int .i64 5] 3) = v4 at *
  go_upto_if 49 with fail
  go_cut [15, 16] (fun _ _ wx => wx = v4)
  case first =>
    by_cases h40 : 40 < lenl
    · obtain ⟨rfl, rfl, rfl⟩ := HM1.out h40
      have t1 : (40 : Int) < (lenl : Int) := by omega
      go_wp2_with fail
      go_meet
      exact rfl
    · obtain ⟨rfl, rfl, rfl⟩ := HM2.out h40
      have t1 : ¬ ((40 : Int) < (lenl : Int)) := by omega
      have CR := Lib.hid (refMost_any ql lenl capl l v4 TL.out (by omega))
      generalize mostN l = mN at *
      generalize mostB l = mB at *
      have t2 : (mN != mN) = false := by simp
      have t3 : (mB != mB) = false := by simp
      go_wp2_with fail
      refine CR.out.mono ?_
      rintro e v5 ⟨rfl, hv5⟩
      rw [hv5]
      clear hv5
      go_wp2_with fail
      go_meet
      exact rfl
  case rest =>
    obtain rfl := hcut
    obtain ⟨E1, hE1⟩ : ∃ E, fewE K L C = E := ⟨_, rfl⟩
    obtain ⟨E2, hE2⟩ : ∃ E, fewE K2 L2 D = E := ⟨_, rfl⟩
    have HE1 := Lib.hid hE1
    have HE2 := Lib.hid hE2
    have CF := Lib.hid (fun W (hT : Tab W a len cap 2 (C.map iiC)) => by have := refFew_any K L a len cap C W hT; rw [hE1] at this; exact this)
    have CG := Lib.hid (fun W (hT : Tab W b len2 cap2 2 (D.map iiC)) => by have := refFew_any K2 L2 b len2 cap2 D W hT; rw [hE2] at this; exact this)
    unfold fewV at CF CG
    clear hE1 hE2 HM1 HM2 TL
    obtain ⟨c0, d0, e0⟩ := SF.out.cells
    go_wp2_with fail
    clear c0 d0 e0
    refine (CF.out _ SF.out.2).mono ?_
    rintro e v5 ⟨rfl, hb⟩
    have HB5 := Lib.hid (below_on HB4.out hb)
    replace SF := Lib.hid (SF.out.below hb)
    replace SG := Lib.hid (SG.out.below hb)
    replace SY := Lib.hid (SY.out.below hb)
    clear hb HB4 CF
    have HSN : Hid (∀ W, Tab W aJ nJ cJ 2 (([] : List (Int × Int)).map iiC) → Calls Tryz.prog 9 #[.agg #[.int .i64 0, .int .i64 0, .slice aJ nJ cJ], .agg #[.int .i64 0, .int .i64 0, .slice none 0 0]] W fun e w' => e = .returned (.bool true) ∧ Below W.heap.size W w') := Lib.hid (fun W hT => sameFew_any 0 0 0 0 aJ none nJ cJ 0 0 [] [] W hT (nil_ctrs W) true (by simp))
    by_cases h1 : E1 = 0
    rotate_left
    · have hJ : JE = E1 := by rw [← HJE.out]; unfold joinE; rw [if_pos (by rw [HE1.out]; exact h1), HE1.out]
      have hP := HOut.out
      rw [hJ] at hP
      rcases hP with ⟨h4, _⟩ | ⟨_, h4, h5, h6⟩
      · exact absurd h4 h1
      subst h4 h5 h6 hJ
      have t1 : (JE == 0) = false := by rw [beq_eq_false_iff_ne]; exact h1
      have t2 : (JE != 0) = true := by simpa using h1
      have t3 : (JE == JE) = true := by simp
      have HBV := HB5
      obtain ⟨c0, d0, e0⟩ := SY.out.cells
      clear h1
      go_wp2_with fail
      refine (HSN.out _ SY.out.2).mono ?_
      rintro e ve ⟨rfl, hbe⟩
      have HBE := Lib.hid (below_on HBV.out hbe)
      clear hbe
      go_wp2
      go_ret
      exact ⟨rfl, HBE.out⟩
    subst h1
    obtain ⟨c1, d1, e1⟩ := SG.out.cells
    go_wp2_with fail
    clear c1 d1 e1
    refine (CG.out _ SG.out.2).mono ?_
    rintro e v6 ⟨rfl, hb⟩
    have HB6 := Lib.hid (below_on HB5.out hb)
    replace SF := Lib.hid (SF.out.below hb)
    replace SG := Lib.hid (SG.out.below hb)
    replace SY := Lib.hid (SY.out.below hb)
    clear hb HB5 CG
    by_cases h2 : E2 = 0
    rotate_left
    · have hJ : JE = E2 := by rw [← HJE.out]; unfold joinE; rw [if_neg (by rw [HE1.out]; decide), if_pos (by rw [HE2.out]; exact h2), HE2.out]
      have hP := HOut.out
      rw [hJ] at hP
      rcases hP with ⟨h4, _⟩ | ⟨_, h4, h5, h6⟩
      · exact absurd h4 h2
      subst h4 h5 h6 hJ
      have t1 : (JE == 0) = false := by rw [beq_eq_false_iff_ne]; exact h2
      have t2 : (JE != 0) = true := by simpa using h2
      have t3 : (JE == JE) = true := by simp
      have HBV := HB6
      obtain ⟨c0, d0, e0⟩ := SY.out.cells
      clear h2
      go_wp2_with fail
      refine (HSN.out _ SY.out.2).mono ?_
      rintro e ve ⟨rfl, hbe⟩
      have HBE := Lib.hid (below_on HBV.out hbe)
      clear hbe
      go_wp2
      go_ret
      exact ⟨rfl, HBE.out⟩
    subst h2
    obtain ⟨c0, d0, e0⟩ := SF.out.cells
    obtain ⟨c1, d1, e1⟩ := SG.out.cells
    by_cases h3 : K = K2
    rotate_left
    · have hJ : JE = 7 := by rw [← HJE.out]; unfold joinE; rw [if_neg (by rw [HE1.out]; decide), if_neg (by rw [HE2.out]; decide), if_pos h3]
      have hP := HOut.out
      rw [hJ] at hP
      rcases hP with ⟨h4, _⟩ | ⟨_, h4, h5, h6⟩
      · cases h4
      subst h4 h5 h6 hJ
      have t1 : (K != K2) = true := by simpa using h3
      have HBV := HB6
      obtain ⟨c2, d2, e2⟩ := SY.out.cells
      clear h3
      go_wp2_with fail
      refine (HSN.out _ SY.out.2).mono ?_
      rintro e ve ⟨rfl, hbe⟩
      have HBE := Lib.hid (below_on HBV.out hbe)
      clear hbe
      go_wp2
      go_ret
      exact ⟨rfl, HBE.out⟩
    subst h3
    have t4 : (K != K) = false := by simp
    have hG := fewE_zero.1 HE1.out
    have hH := fewE_zero.1 HE2.out
    obtain ⟨k, rfl⟩ : ∃ k : Nat, K = (k : Int) := ⟨K.toNat, by have := hG.k1; omega⟩
    have hk1 : 1 ≤ k := by have := hG.k1; omega
    have hk16 : k ≤ 16 := by have := hG.k2; omega
    have hlen : len ≤ 16 := by have := hG.len; rw [HL.out] at this; omega
    have hlen2 : len2 ≤ 16 := by have := hH.len; rw [HL2.out] at this; omega
    have hl1 := hG.l1
    have hl2 := hG.l2
    have hm1 := hH.l1
    have hm2 := hH.l2
    have HNU := Lib.hid hG.num
    have HNV := Lib.hid hH.num
    have HOR := Lib.hid hG.ord
    have hZ : JE = setE (L + L2 + exC (addAll C D) k) (lowC (exC (addAll C D) k) (addAll C D)) := by
      rw [← HJE.out]; unfold joinE joinC joinZ; rw [if_neg (by rw [HE1.out]; decide), if_neg (by rw [HE2.out]; decide), if_neg (by simp), Int.toNat_natCast]
    have HOut2 : Hid (Out JE k (L + L2 + exC (addAll C D) k) (lowC (exC (addAll C D) k) (addAll C D)) JK JL JC) := Lib.hid (by
      have h := HOut.out
      unfold joinC joinZ at h
      rw [Int.toNat_natCast] at h
      exact h)
    have HCS : Hid (∀ p ∈ C ++ D, 1 ≤ p.2 ∧ p.2 ≤ 1000000000000 ∧ wfI p.1) := Lib.hid (fun p hp => by
      rcases List.mem_append.1 hp with h | h
      · exact ⟨(HNU.out p h).1, (HNU.out p h).2, (HWF.out p h).1⟩
      · exact ⟨(HNV.out p h).1, (HNV.out p h).2, (HWG.out p h).1⟩)
    have HSM : Hid (Came.sumN (C ++ D) ≤ 1000000000000000) := Lib.hid (by
      have h1 := sum_bd HNU.out
      have h2 := sum_bd HNV.out
      rw [HL.out] at h1
      rw [HL2.out] at h2
      rw [Came.sumN_append]
      omega)
    have hwp : IntKind.i64.wrap (L + L2) = L + L2 := by rw [IntKind.wrap_i64]; omega
    have HFE : Hid (∀ (W : World) (MB : Nat), OwnsSums Tryz.prog 3 3 W MB (C ++ D).reverse → Calls Tryz.prog 11 #[.int .i64 k, .int .i64 (IntKind.i64.wrap (L + L2)), .map (some MB)] W fun e w' => ∃ v, e = .returned (.tuple #[.agg #[.int .i64 JK, .int .i64 JL, v], .int .i64 JE]) ∧ Own w' W.heap.size 37 2 v (JC.map iiC) ∧ Below W.heap.size W w') := Lib.hid (fun W MB hM => by
      rw [hwp]
      refine (fewer_any k (L + L2) MB _ (addAll C D) W hM (fun p hp => (HCS.out p (List.mem_reverse.1 hp)).1) (by rw [List.length_reverse, List.length_append, HL.out, HL2.out]; omega) (addAll_ord HOR.out)
        (fun d hd => by
          have := addAll_bd HNU.out D.length HNV.out (Nat.le_refl _) d (by rw [List.take_length]; exact hd)
          rw [HL2.out] at this
          omega) (fun x => by rw [addAll_oft, oft_reverse, oft_append]) hk1 hk16 (by omega) (by omega)).mono ?_
      rintro e w' ⟨Kr, Lr, Cr, v, rfl, hO, hw, hb⟩
      rw [← hZ] at hO ⊢
      obtain ⟨rfl, rfl, rfl⟩ := out_same hO HOut2.out
      exact ⟨v, rfl, hw, hb⟩)
    have HCC : Hid (∀ (W : World) (p : Nat), Below v6.heap.size v6 W → W.heap[p]? = some (.cells #[.slice a len cap, .slice b len2 cap2] 22 (0, 0)) → Calls Tryz.prog 16 #[.slice (some ⟨p, 0, none⟩) 2 2] W (RetRows W 37 2 ((C ++ D).map iiC))) := Lib.hid (by
      intro W p hb hX
      have hS : Tab W (some ⟨p, 0, none⟩) 2 2 1 (([⟨a, len, cap, C⟩, ⟨b, len2, cap2, D⟩] : List (Sl (Int × Int))).map slC) := tab_held hX (by intro r hr; obtain ⟨y, _, rfl⟩ := List.mem_map.1 hr; rfl)
      have h := concat_counters _ 2 2 _ W hS (by
        intro s hs
        rcases List.mem_cons.1 hs with rfl | hs
        · exact SF.out.2.below hb
        · obtain rfl := List.mem_singleton.1 hs
          exact SG.out.2.below hb) (by simp; omega)
      rw [show (([⟨a, len, cap, C⟩, ⟨b, len2, cap2, D⟩] : List (Sl (Int × Int))).flatMap (·.l)) = C ++ D by simp] at h
      exact h)
    have HLN : Hid (((C ++ D).map iiC).length = len + len2) := Lib.hid (by rw [List.length_map, List.length_append, HL.out, HL2.out])
    have HCO : Hid (∀ (W : World) (q : Option Addr) (c : Nat), Tab W q (len + len2) c 2 ((C ++ D).map iiC) → Calls Tryz.prog 10 #[.slice q (len + len2) c] W fun e w' => ∃ b : Nat, e = .returned (.map (some b)) ∧ W.heap.size ≤ b ∧ OwnsSums Tryz.prog 3 3 w' b (C ++ D).reverse ∧ Below W.heap.size W w') :=
      Lib.hid (fun W q c hT => counts_wide q (len + len2) c (C ++ D) W hT (by omega) (fun p hp => by have := (HCS.out p hp).1; omega) (fun p hp => (HCS.out p hp).2.2) HSM.out)
    have HSA := Lib.hid (fun (W : World) (q : Option Addr) (c m : Nat) (hT : Tab W q m c 2 (JC.map iiC)) (hY : FV W Y JK JL aJ nJ cJ JC) => sameFew_any JK JK JL JL aJ q nJ cJ m c JC JC W hY.2 hT true (by simp))
    unfold fewV at HSA
    have HSK : Hid (∀ W, Below v6.heap.size v6 W → W.cell? ⟨X, 0, none⟩ = some (.int .i64 k) ∧ W.cell? ⟨X, 1, none⟩ = some (.int .i64 L) ∧ W.cell? ⟨X, 2, none⟩ = some (.slice a len cap) ∧ W.cell? ⟨X + 1, 1, none⟩ = some (.int .i64 L2) ∧ W.cell? ⟨X + 1, 2, none⟩ = some (.slice b len2 cap2)) := Lib.hid (fun W hb => ⟨(SF.out.below hb).cells.1, (SF.out.below hb).cells.2.1, (SF.out.below hb).cells.2.2, (SG.out.below hb).cells.2.1, (SG.out.below hb).cells.2.2⟩)
    have hx0 : (v6.alloc (.cells #[.slice a len cap, .slice b len2 cap2] 22)).heap[v6.heap.size]? = some (.cells #[.slice a len cap, .slice b len2 cap2] 22 (0, 0)) := (MapKept.heap_alloc v6 _).1
    have hx1 : ((v6.alloc (.cells #[.slice a len cap, .slice b len2 cap2] 22)).alloc (.cells #[.int .i64 0, .int .i64 0, .slice none 0 0] 24)).heap[v6.heap.size]? = some (.cells #[.slice a len cap, .slice b len2 cap2] 22 (0, 0)) := (Below.heap_alloc _ _ _ (by simp)).trans hx0
    have hx2 : ((v6.alloc (.cells #[.int .i64 0, .int .i64 0, .slice none 0 0] 24)).alloc (.cells #[.slice a len cap, .slice b len2 cap2] 22)).heap[v6.heap.size + 1]? = some (.cells #[.slice a len cap, .slice b len2 cap2] 22 (0, 0)) := by
      have := (MapKept.heap_alloc (v6.alloc (.cells #[.int .i64 0, .int .i64 0, .slice none 0 0] 24)) (.cells #[.slice a len cap, .slice b len2 cap2] 22)).1
      simpa using this
    have HX0 := Lib.hid hx0
    have HX1 := Lib.hid hx1
    have HX2 := Lib.hid hx2
    have t3 : (JE == JE) = true := by simp
    have hs6 : v6.heap.size ≤ v6.heap.size := Nat.le_refl _
    clear hZ hG hH hx0 hx1 hx2 hwp
    go_upto_region 19 with fail
    go_cut [18, 17] (fun p e wx => ∃ (i : Nat) (q : Option Addr) (m c : Nat), p = .pointer (some ⟨i, 0, none⟩) ∧ e = .int .i64 JE ∧ Hid (FV wx i JK JL q m c JC) ∧ Hid (Below v6.heap.size v6 wx))
    case first =>
      go_region_held_law (fun W => W.cell? ⟨X, 0, none⟩ = some (.int .i64 k) ∧ W.cell? ⟨X, 1, none⟩ = some (.int .i64 L) ∧ W.cell? ⟨X, 2, none⟩ = some (.slice a len cap) ∧ W.cell? ⟨X + 1, 1, none⟩ = some (.int .i64 L2) ∧ W.cell? ⟨X + 1, 2, none⟩ = some (.slice b len2 cap2)) (first | exact ⟨c0, d0, e0, d1, e1⟩ | exact ⟨p0, p1, p2, p3, p4⟩ | exact ⟨h0, h1, h2, h3, h4⟩ | exact ⟨j0, j1, j2, j3, j4⟩ | exact HSK.out _ (three_below hbj9 z9.1.1 _ _ _) | exact HSK.out _ (three_below (hbj9.alloc hsj9 _) hsj9 _ _ _) | exact HSK.out _ ((Below.refl _ _).alloc (Nat.le_refl _) _) | exact HSK.out _ (((Below.refl _ _).alloc (Nat.le_refl _) _).alloc (by simp) _) | exact HSK.out _ (hbj9.alloc hsj9 _) | exact HSK.out _ (hbw8.alloc hs8 _) | exact HSK.out _ (hbw5.alloc hs5 _) | go_keep) (first
        | (go_at_call 16
           refine Calls.mono (HCC.out _ _ ?_ ?_) ?_
           (first | exact ((Below.refl _ _).alloc (Nat.le_refl _) _).drew | exact (((Below.refl _ _).alloc (Nat.le_refl _) _).alloc (by simp) _).drew | exact (Below.refl _ _).alloc (Nat.le_refl _) _ | exact ((Below.refl _ _).alloc (Nat.le_refl _) _).alloc (by simp) _)
           (first | exact HX0.out | exact HX1.out | exact HX2.out)
           rintro e w5 ⟨q5, rfl, hO5, hb5⟩
           obtain ⟨a5, c5, rfl, _⟩ := hO5.tab
           have hbw5 : Below v6.heap.size v6 w5 := (by first | exact below_on (((Below.refl v6.heap.size v6).alloc (Nat.le_refl _) _).drew) hb5 | exact below_on ((((Below.refl v6.heap.size v6).alloc (Nat.le_refl _) _).alloc (by simp) _).drew) hb5 | exact below_on ((Below.refl v6.heap.size v6).alloc (Nat.le_refl _) _) hb5 | exact below_on (((Below.refl v6.heap.size v6).alloc (Nat.le_refl _) _).alloc (by simp) _) hb5)
           have hs5 := hbw5.size
           (first | have z5 := ((ZB.new (v := v6) (W := v6) (Nat.le_refl _)).alloc _).drew.below hb5 | have z5 := (ZB.new1 (v := v6) (W := v6) (.cells #[.slice a len cap, .slice b len2 cap2] 22) (Nat.le_refl _)).drew.below hb5 | have z5 := ((ZB.new (v := v6) (W := v6) (Nat.le_refl _)).alloc _).below hb5 | have z5 := (ZB.new1 (v := v6) (W := v6) (.cells #[.slice a len cap, .slice b len2 cap2] 22) (Nat.le_refl _)).below hb5 | skip)
           obtain ⟨p0, p1, p2, p3, p4⟩ := HSK.out _ hbw5
           rw [HLN.out] at hO5 ⊢)
        | (go_at_call 10
           refine (HCO.out _ _ _ (by first | exact hO5.tab_of | exact (hO5.alloc _).tab_of)).mono ?_
           rintro e w8 ⟨MB8, rfl, hMB8, hM8, hb8⟩
           have hbw8 : Below v6.heap.size v6 w8 := (by first | exact below_on hbw5 hb8 | exact below_on (hbw5.alloc hs5 _) hb8)
           have hs8 := hbw8.size
           (first | have z8 := z5.below hb8 | have z8 := (ZB.new (v := v6) (W := w5) hs5).below hb8 | skip)
           obtain ⟨h0, h1, h2, h3, h4⟩ := HSK.out _ hbw8)
        | (go_at_call 11
           refine (HFE.out _ _ (by first | exact hM8 | exact hM8.below ((Below.refl _ _).alloc (Nat.le_refl _) _))).mono ?_
           rintro e w9 ⟨v9, rfl, hO9, hb9⟩
           obtain ⟨a9, c9, rfl, hT9⟩ := own_ctrs hO9 rfl
           have hbj9 : Below v6.heap.size v6 w9 := (by first | exact below_on hbw8 hb9 | exact below_on (hbw8.alloc hs8 _) hb9)
           have hsj9 := hbj9.size
           have L9 := three_all (ZB.new (v := v6) (W := w9) hsj9).2
           obtain ⟨⟨x3, x4, x5⟩, y3, y4, y5⟩ := L9
           (first | (have z9 := And.intro (z8.below hb9) z8.lt) | (have z9 := And.intro ((ZB.new (v := v6) (W := w8) hs8).below hb9) (ZB.new (v := v6) (W := w8) hs8).lt) | skip)
           (first | (have Z9 := three_all z9.1.2; obtain ⟨⟨x0, x1, x2⟩, y0, y1, y2⟩ := Z9) | skip)
           obtain ⟨j0, j1, j2, j3, j4⟩ := HSK.out _ hbj9))
      all_goals
        first
          | (have hOf := three_own hO9 z9.2 JK JL (.slice a9 JC.length c9)
             have hBf := three_below hbj9 z9.1.1 JK JL (.slice a9 JC.length c9)
             have hXf := three_set (x' := JK) (y' := JL) (v' := .slice a9 JC.length c9) z9.1.2)
          | (have hOf := late_own hO9 (.cells #[.int .i64 0, .int .i64 0, .slice none 0 0] 24) (.int .i64 JK) (.int .i64 JL) (.slice a9 JC.length c9)
             have hBf := three_below (b := w9.heap.size) (hbj9.alloc hsj9 (.cells #[.int .i64 0, .int .i64 0, .slice none 0 0] 24)) hsj9 JK JL (.slice a9 JC.length c9)
             have hXf := three_set (x' := JK) (y' := JL) (v' := .slice a9 JC.length c9) (ZB.new (v := v6) (W := w9) hsj9).2)
        go_wp2_with fail
        go_meet
        first
          | exact ⟨_, a9, JC.length, c9, rfl, rfl, Lib.hid ⟨hXf, hOf.tab_of⟩, Lib.hid hBf⟩
          | exact ⟨_, a9, JC.length, c9, rfl, rfl, Lib.hid ⟨(MapKept.heap_alloc w9 _).1, (hO9.alloc _).tab_of⟩, Lib.hid (hbj9.alloc hsj9 _)⟩
    case rest =>
      obtain ⟨i, a9, m9, c9, rfl, rfl, FZ, HBf⟩ := hcut
      have SYF := Lib.hid (SY.out.below HBf.out)
      have HBF := Lib.hid (below_on HB6.out HBf.out)
      obtain ⟨b0, b1, b2⟩ := SYF.out.cells
      obtain ⟨b3, b4, b5⟩ := FZ.out.cells
      go_wp2_with fail
      refine (HSA.out _ _ _ _ FZ.out.2 SYF.out).mono ?_
      rintro e wf ⟨rfl, hbf⟩
      have HBE := Lib.hid (below_on HBF.out hbf)
      clear hbf
      go_wp2
      go_ret
      exact ⟨rfl, HBE.out⟩

set_option maxRecDepth 100000 in
theorem lifted (os : Os) (started : os.Started) (H : Type) (enc : TypeId × Value → H) :
    ReturnsInHanded {} Tryz.checked os 4 .any (Rows.fewJoinsSpec.pre6 enc Tryz.prog Tryz.f4 Rows.fewJoinsRow.domain false) (Rows.fewJoinsSpec.post enc Tryz.prog Tryz.f4 false true false false) := by
  refine returnsInHanded_of_change_sized (C := Tryz.checked) own started (by kernel_rfl) Tryz.func4
    (ChangeSpec.witness6 (enc := enc) (C := Tryz.checked) false ⟨#[], #[.agg #[.int .i64 0, .int .i64 0, .slice none 0 0], .agg #[.int .i64 0, .int .i64 0, .slice none 0 0], .slice none 0 0], []⟩ 8 (by kernel_rfl) (by kernel_rfl) (by kernel_rfl) (by kernel_rfl)) ?_
  intro W base args ds gs before hval0 hW hcnd hsz0 _
  have hval : ∀ (j : Nat) t v, Tryz.f4.params[j]? = some t → args[j]? = some v → Value.okWide Tryz.prog W .any base t v := hval0
  have hW' := hW
  obtain ⟨p, q, hA0, hV, rfl, hfz, hnd⟩ := hW
  have hA : DataW.TrodAll enc Tryz.prog W 0 (fun _ => true) true Tryz.f4.params.toList args.toList ds p := hA0
  have hsz : (DataW.weightsEach Tryz.prog (Tryz.f4.params.toList ++ Rows.fewJoinsSpec.plain.varTypes Tryz.prog) (ds ++ gs)).all (· ≤ reachBytes) = true := hsz0
  rw [Tryz.params4] at hA hval hsz
  obtain ⟨v0, vs0, d0, ds0, p0, q0, hargs, rfl, rfl, h0, r0⟩ := trodAll_cons hA
  obtain ⟨v1, vs1, d1, ds1, p1, q1, rfl, rfl, rfl, h1, r1⟩ := trodAll_cons r0
  obtain ⟨v2, vs2, d2, ds2, p2, q2, rfl, rfl, rfl, h2, r2⟩ := trodAll_cons r1
  obtain ⟨rfl, rfl, rfl⟩ := trodAll_nil r2
  obtain rfl : args = #[v0, v1, v2] := by cases args; simp_all
  obtain ⟨rfl, rfl⟩ := trodVars_none hV
  have k0 := h0
  have L0 := light_of hsz (j := 0) (t := 24) (d := d0) rfl rfl
  have lt0 : ∀ x ∈ p0, x.block < W.heap.size := by obtain ⟨m, hm⟩ := k0; exact DataW.trod_lt m _ _ _ hm
  obtain ⟨cs0, rfl, hsz0⟩ := okWide_struct Tryz.underlying24 (hval 0 24 v0 rfl rfl)
  obtain ⟨n0, f0⟩ := trod_agg_of h0
  obtain ⟨c0_0, c0_1, c0_2, _, _, _, _, _, _, hcs0, g0_0, g0_1, g0_2⟩ := struct3 Tryz.underlying24 (by kernel_rfl) (by kernel_rfl) f0 L0
  obtain ⟨x0_0, e0_0, _, w0_0⟩ := DataW.trod_int Tryz.underlying3 g0_0.1
  obtain ⟨x0_1, e0_1, _, w0_1⟩ := DataW.trod_int Tryz.underlying3 g0_1.1
  obtain ⟨x0_2, e0_2, t0_2, b0_2, o0_2⟩ := el_slice (w := W) (k := 2) iiC wfII (by decide) Tryz.underlying22 (by kernel_rfl) (el_ii Tryz.underlying37 (by kernel_rfl) (by kernel_rfl) Tryz.underlying3 Tryz.underlying3) (B := 16) (by kernel_rfl) _ _ _ g0_2.1 g0_2.2
  simp only [slC, List.cons.injEq, and_true] at e0_0 e0_1 e0_2
  subst e0_0 e0_1 e0_2
  obtain rfl : cs0 = #[.int .i64 x0_0, .int .i64 x0_1, .slice x0_2.a x0_2.len x0_2.cap] := Array.toList_inj.1 hcs0
  have k1 := h1
  have L1 := light_of hsz (j := 1) (t := 24) (d := d1) rfl rfl
  have lt1 : ∀ x ∈ p1, x.block < W.heap.size := by obtain ⟨m, hm⟩ := k1; exact DataW.trod_lt m _ _ _ hm
  obtain ⟨cs1, rfl, hsz1⟩ := okWide_struct Tryz.underlying24 (hval 1 24 v1 rfl rfl)
  obtain ⟨n1, f1⟩ := trod_agg_of h1
  obtain ⟨c1_0, c1_1, c1_2, _, _, _, _, _, _, hcs1, g1_0, g1_1, g1_2⟩ := struct3 Tryz.underlying24 (by kernel_rfl) (by kernel_rfl) f1 L1
  obtain ⟨x1_0, e1_0, _, w1_0⟩ := DataW.trod_int Tryz.underlying3 g1_0.1
  obtain ⟨x1_1, e1_1, _, w1_1⟩ := DataW.trod_int Tryz.underlying3 g1_1.1
  obtain ⟨x1_2, e1_2, t1_2, b1_2, o1_2⟩ := el_slice (w := W) (k := 2) iiC wfII (by decide) Tryz.underlying22 (by kernel_rfl) (el_ii Tryz.underlying37 (by kernel_rfl) (by kernel_rfl) Tryz.underlying3 Tryz.underlying3) (B := 16) (by kernel_rfl) _ _ _ g1_2.1 g1_2.2
  simp only [slC, List.cons.injEq, and_true] at e1_0 e1_1 e1_2
  subst e1_0 e1_1 e1_2
  obtain rfl : cs1 = #[.int .i64 x1_0, .int .i64 x1_1, .slice x1_2.a x1_2.len x1_2.cap] := Array.toList_inj.1 hcs1
  have k2 := h2
  have L2 := light_of hsz (j := 2) (t := 39) (d := d2) rfl rfl
  have lt2 : ∀ x ∈ p2, x.block < W.heap.size := by obtain ⟨m, hm⟩ := k2; exact DataW.trod_lt m _ _ _ hm
  obtain ⟨a2, len2, cap2, rfl⟩ := okWide_slice Tryz.underlying39 (hval 2 39 v2 rfl rfl)
  obtain ⟨n2, f2⟩ := trod_slice_of Tryz.underlying39 h2
  have F2 := And.intro f2 L2
  obtain ⟨x2, e2, t2, b2, o2⟩ := el_slice (w := W) (k := 1) iC wfI (by decide) Tryz.underlying39 (by kernel_rfl) (el_int Tryz.underlying3) (B := 8) (by kernel_rfl) _ _ _ F2.1 F2.2
  simp only [slC, List.cons.injEq, Value.slice.injEq, and_true] at e2
  obtain ⟨rfl, rfl, rfl⟩ := e2
  clear hA0 hval0
  refine (walk x0_0 x0_1 x0_2 x1_0 x1_1 x1_2 x2 W w0_0 w0_1 t0_2 b0_2 o0_2 w1_0 w1_1 t1_2 b1_2 o1_2 t2 b2 o2).mono fun e W' ⟨he, hg⟩ => ?_
  subst he
  exact ⟨_, rfl, _, _, _, [], _, [], hW', trodAll_mk1 (shut_bool Tryz.underlying4 _), (trodAll_cons_mk (Below.trod laidOut (by kernel_rfl) (of_decide_eq_true (by kernel_rfl)) k0 hg lt0) (trodAll_cons_mk (Below.trod laidOut (by kernel_rfl) (of_decide_eq_true (by kernel_rfl)) k1 hg lt1) (trodAll_cons_mk (Below.trod laidOut (by kernel_rfl) (of_decide_eq_true (by kernel_rfl)) k2 hg lt2) trodAll_mk0))), rfl, hg.frame _, fun h => by cases h⟩

theorem over : Rows.fewJoinsRow.holds Tryz.pinned (OpenSpec.ofChange Rows.fewJoinsSpec) :=
  OpenClaim.holds_of_wide 4 Tryz.f4 rfl rfl rfl rfl rfl rfl rfl ⟨rfl, rfl, rfl, rfl, rfl⟩ rfl rfl rfl rfl rfl (by kernel_rfl) Tryz.func4 (by kernel_rfl)
    (of_decide_eq_true (by kernel_rfl)) (by unfold Func.isWrapper; first | (rw [if_pos (by decide +kernel)]; kernel_rfl) | (rw [if_neg (by decide +kernel)]; exact ⟨rfl, rfl⟩))
    (fun os started H enc _ => lifted os started H enc)

/-- ████ THE STATEMENT ████ -/
theorem proved : Rows.FewJoinsSaid :=
  over
#print axioms proved
end Go.Proofs.YtffgoekdjcempaaGreat.fewJoins
