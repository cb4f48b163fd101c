/-
  'Rows.BloomSaysSaid' is proved: whatever is handed in, Check, Put, Has and Join answer what the document says. No condition.
-/
import Derived.Test.YtcfejbhoeichnaaRows
import Derived.Test.YtcfejbhoeichnaaShapes
import Derived.Test.YtcfejbhoeichnaaBloomAll
import Derived.Test.YtcfejbhoeichnaaSameF
import Derived.Test.YtcfejbhoeichnaaRefFilter
import Derived.Test.YtcfejbhoeichnaaRefPlaces
import Derived.Test.YtcfejbhoeichnaaStepRows
import Derived.Test.YtcfejbhoeichnaaLit
import Derived.Deep.DeepCutAuto
import Derived.Deep.RegionHeldLaw
import Derived.Deep.RegionHeld3
import Derived.Deep.RegionWith
import Derived.WalkKit
import Derived.ProofKit
import Derived.OpenShut
import Derived.ShutString
import Derived.ChangeOld
import Derived.Below
namespace Go.Proofs.Ytcfejbhoeichnaa.bloomSays
open Go.ChangeShapes Go.WideShapes Go.ChangeAt Go.RowKit
open Go.ChangeMaps (open_string shut_string)
set_option linter.unusedVariables false

theorem own : ownKnob Try.prog.godebug = none := by kernel_rfl
theorem laidOut : laidOutB Try.prog = true := by kernel_rfl

--BEATS
open Bloom
theorem nil_tabB (w : World) : Tab w none 0 0 1 (([] : List Bool).map bC) := ⟨rfl, Nat.le_refl _, Nat.zero_le _, fun _ => rfl, fun h => by cases h⟩
theorem joinFE_first {S K S2 K2 : Int} {n n2 : Nat} (h : filterE S K n ≠ 0) : joinFE S K n S2 K2 n2 = filterE S K n := if_pos h
theorem drew_below5 {w w' : World} (h : Below w.drew.heap.size w.drew w') : Below w.heap.size w w' := ((Below.refl _ _).drew.trans h)
theorem keep3 {w : World} {X Y : Nat} {x0 x1 x2 : Value} {u0 u1 u2 : Value} (h : w.cell? ⟨X, 0, none⟩ = some x0 ∧ w.cell? ⟨X, 1, none⟩ = some x1 ∧ w.cell? ⟨X, 2, none⟩ = some x2) (hne : X ≠ Y) :
    (((w.setCell ⟨Y, 0, none⟩ u0).setCell ⟨Y, 1, none⟩ u1).setCell ⟨Y, 2, none⟩ u2).cell? ⟨X, 0, none⟩ = some x0 ∧ (((w.setCell ⟨Y, 0, none⟩ u0).setCell ⟨Y, 1, none⟩ u1).setCell ⟨Y, 2, none⟩ u2).cell? ⟨X, 1, none⟩ = some x1 ∧ (((w.setCell ⟨Y, 0, none⟩ u0).setCell ⟨Y, 1, none⟩ u1).setCell ⟨Y, 2, none⟩ u2).cell? ⟨X, 2, none⟩ = some x2 := by
  have e : ∀ i : Nat, (((w.setCell ⟨Y, 0, none⟩ u0).setCell ⟨Y, 1, none⟩ u1).setCell ⟨Y, 2, none⟩ u2).cell? ⟨X, i, none⟩ = w.cell? ⟨X, i, none⟩ := fun i => by
    rw [World.cell?_of_block (Below.heap_setCell _ _ _ _ hne), World.cell?_of_block (Below.heap_setCell _ _ _ _ hne), World.cell?_of_block (Below.heap_setCell _ _ _ _ hne)]
  rw [e 0, e 1, e 2]
  exact h
theorem own_spot_lt {w : World} {base g n c : Nat} {e : TypeId} {L : List Bool} (h : Own w base e 1 (.slice (some ⟨g, 0, none⟩) n c) (L.map bC)) (hl : 0 < L.length) : g < w.heap.size := by
  obtain ⟨g', c', hv, _, h2⟩ := own_spotB h hl
  simp only [Value.slice.injEq, Option.some.injEq, Addr.mk.injEq, and_true] at hv
  rw [hv.1]
  exact h2
theorem own_not {w : World} {Z : Nat} {e : TypeId} {v : Value} {R : List (List Value)} (h : Own w (Z + 1) e 1 v R) (hv : some Z = v.ownBlock) : False := by
  have := (h.own.lt Z hv.symm).1
  omega
theorem hasB_snoc {B : List Bool} {ps : List Nat} {p : Nat} {b : Bool} (h : B[p]? = some b) : hasB B (ps ++ [p]) = (hasB B ps && b) := by
  unfold hasB
  rw [List.all_append]
  congr 1
  simp [h]

set_option maxRecDepth 100000 in
set_option maxHeartbeats 12000000 in
theorem walk (x0_0 : Int) (x0_1 : Int) (x0_2 : Sl Bool) (x1_0 : Int) (x1_1 : Int) (x1_2 : Sl Bool) (x2 : Int) (w : World) (w0_0 : (Lit.int .i64 x0_0).wf = true) (w0_1 : (Lit.int .i64 x0_1).wf = true) (t0_2 : Tab w x0_2.a x0_2.len x0_2.cap 1 (x0_2.l.map bC)) (b0_2 : x0_2.len * 1 ≤ 140737488351232) (o0_2 : ∀ z ∈ x0_2.l, (fun _ => True) z) (w1_0 : (Lit.int .i64 x1_0).wf = true) (w1_1 : (Lit.int .i64 x1_1).wf = true) (t1_2 : Tab w x1_2.a x1_2.len x1_2.cap 1 (x1_2.l.map bC)) (b1_2 : x1_2.len * 1 ≤ 140737488351232) (o1_2 : ∀ z ∈ x1_2.l, (fun _ => True) z) (w2 : (Lit.int .i64 x2).wf = true) :
    Calls Try.prog 3 #[.agg #[.int .i64 x0_0, .int .i64 x0_1, .slice x0_2.a x0_2.len x0_2.cap], .agg #[.int .i64 x1_0, .int .i64 x1_1, .slice x1_2.a x1_2.len x1_2.cap], .int .i64 x2] w fun e w' => e = .returned (.bool true) ∧ Below w.heap.size w w' := by
  obtain ⟨a, len, cap, B⟩ := x0_2
  obtain ⟨b, len2, cap2, C⟩ := x1_2
  have hT1 : Tab w a len cap 1 (B.map bC) := t0_2
  have hT2 : Tab w b len2 cap2 1 (C.map bC) := t1_2
  clear t0_2 t1_2 o0_2 o1_2 b0_2 b1_2
  generalize x0_0 = S at *
  generalize x0_1 = K at *
  generalize x1_0 = S2 at *
  generalize x1_1 = K2 at *
  generalize x2 = x at *
  have hl1 : B.length = len := by have h := hT1.hlen; rw [List.length_map] at h; exact h
  have hl2 : C.length = len2 := by have h := hT2.hlen; rw [List.length_map] at h; exact h
  have HLL := Lib.hid (And.intro hl1 hl2)
  have hm1 := tab_len hT1
  have hm2 := tab_len hT2
  have hbx : Below w.heap.size w ((w.alloc (.cells #[.int .i64 S, .int .i64 K, .slice a len cap] 24)).alloc (.cells #[.int .i64 S2, .int .i64 K2, .slice b len2 cap2] 24)) := ((Below.refl _ _).alloc (Nat.le_refl _) _).alloc (by simp) _
  have SA0 : SF ((w.alloc (.cells #[.int .i64 S, .int .i64 K, .slice a len cap] 24)).alloc (.cells #[.int .i64 S2, .int .i64 K2, .slice b len2 cap2] 24)) w.heap.size S K a len cap B := ⟨by rw [Below.heap_alloc _ _ _ (by simp)]; exact (MapKept.heap_alloc w _).1, hT1.below hbx⟩
  have SB0 : SF ((w.alloc (.cells #[.int .i64 S, .int .i64 K, .slice a len cap] 24)).alloc (.cells #[.int .i64 S2, .int .i64 K2, .slice b len2 cap2] 24)) (w.heap.size + 1) S2 K2 b len2 cap2 C := ⟨by
    have := (MapKept.heap_alloc (w.alloc (.cells #[.int .i64 S, .int .i64 K, .slice a len cap] 24)) (.cells #[.int .i64 S2, .int .i64 K2, .slice b len2 cap2] 24)).1
    simpa using this, hT2.below hbx⟩
  obtain ⟨v0, hv0⟩ : ∃ v, (w.alloc (.cells #[.int .i64 S, .int .i64 K, .slice a len cap] 24)).alloc (.cells #[.int .i64 S2, .int .i64 K2, .slice b len2 cap2] 24) = v := ⟨_, rfl⟩
  rw [hv0] at hbx SA0 SB0
  have SA := Lib.hid SA0
  have SB := Lib.hid SB0
  have HB0 := Lib.hid hbx
  have HV0 := Lib.hid hv0
  obtain ⟨SP, KP, BP, CP1, CP⟩ := fput_all S K a len cap B x
  obtain ⟨h1, CA1, CA⟩ := fhas_all S K a len cap B x
  obtain ⟨SJ, KJ, BJ, CJ1, CJ⟩ := fjoin_all S K S2 K2 a b len cap len2 cap2 B C
  have C4 := fun W => refFilter_any S K a len cap W hm1
  have C5 := fun W => fcheck_any S K a len cap hm1 W
  have C6 := Lib.hid (fun W => fcheck_any 0 0 none 0 0 (by omega) W)
  rw [show filterE 0 0 0 = 1 from by decide] at C6
  have C7 := fun W => refFilter_any S2 K2 b len2 cap2 W hm2
  unfold filterV at C5 C6
  have hJE := joinFE_first (S := S) (K := K) (n := len) (S2 := S2) (K2 := K2) (n2 := len2)
  have hJD : joinFE S K len S2 K2 len2 = if filterE S K len ≠ 0 then filterE S K len else if filterE S2 K2 len2 ≠ 0 then filterE S2 K2 len2 else if S ≠ S2 ∨ K ≠ K2 then 7 else 0 := rfl
  obtain ⟨E, hE⟩ : ∃ E, filterE S K len = E := ⟨_, rfl⟩
  obtain ⟨E2, hE2⟩ : ∃ E, filterE S2 K2 len2 = E := ⟨_, rfl⟩
  have HE := Lib.hid (And.intro hE hE2)
  rw [hE] at CP CP1 CA CA1 C4 C5 hJE
  rw [hE, hE2] at hJD
  rw [hE2] at C7
  obtain ⟨J, hJ⟩ : ∃ J, joinFE S K len S2 K2 len2 = J := ⟨_, rfl⟩
  have HJ := Lib.hid hJ
  rw [hJ] at CJ CJ1 hJE hJD
  have HJE := Lib.hid (And.intro hJE hJD)
  replace C4 := Lib.hid C4
  replace C5 := Lib.hid C5
  replace C7 := Lib.hid C7
  clear hT1 hT2 hl1 hl2 hbx SA0 SB0 hv0 hE hE2 hJ hJE hJD
  go_enter Try.func3, Try.ntmps3
  go_upto_region 1 with fail
  rw [HV0.out]
  obtain ⟨XA, hXA⟩ : ∃ X, w.heap.size = X := ⟨_, rfl⟩
  have HXA := Lib.hid hXA
  rw [hXA] at SA SB ⊢
  clear HV0 hXA
  obtain ⟨a0, a1, a2⟩ := SA.out.cells
  go_wp2_with fail
  clear a0 a1 a2
  refine (CP.out _ SA.out.2).mono ?_
  rintro e v2 ⟨qv, rfl, hO, hb⟩
  obtain ⟨aP, cP, rfl, _⟩ := hO.tab
  rw [List.length_map] at hO ⊢
  obtain ⟨nP, hnP⟩ : ∃ u, BP.length = u := ⟨_, rfl⟩
  rw [hnP] at hO ⊢
  have HNP := Lib.hid hnP
  have hz := SF.new (S := SP) (K := KP) hO
  have HBn := below_on (below_on HB0.out hb) hz.2
  replace SA := Lib.hid ((SA.out.below hb).below hz.2)
  replace SB := Lib.hid ((SB.out.below hb).below hz.2)
  obtain ⟨v3, hv⟩ : ∃ v, v2.alloc (.cells #[.int .i64 SP, .int .i64 KP, .slice aP nP cP] 24) = v := ⟨_, rfl⟩
  rw [hv] at hz HBn SA SB
  obtain ⟨XP, hX⟩ : ∃ X, v2.heap.size = X := ⟨_, rfl⟩
  rw [hX] at hz
  have SFP := Lib.hid hz.1
  have HB3 := Lib.hid HBn
  have HVX := Lib.hid (And.intro hv hX)
  clear hz HBn hb hO hnP hv hX CP HB0
  go_upto_region 2 with fail
  rw [HVX.out.1, HVX.out.2]
  clear HVX
  obtain ⟨a0, a1, a2⟩ := SA.out.cells
  go_wp2_with fail
  clear a0 a1 a2
  refine (CA.out _ SA.out.2).mono ?_
  rintro e v4 ⟨rfl, hb⟩
  replace SA := Lib.hid (SA.out.below hb)
  replace SB := Lib.hid (SB.out.below hb)
  replace SFP := Lib.hid (SFP.out.below hb)
  have HB4 := Lib.hid (below_on HB3.out hb)
  clear hb CA HB3
  obtain ⟨a0, a1, a2⟩ := SA.out.cells
  obtain ⟨b0, b1, b2⟩ := SB.out.cells
  go_wp2_with fail
  clear a0 a1 a2 b0 b1 b2
  refine (CJ.out _ SA.out.2 SB.out.2).mono ?_
  rintro e v5 ⟨qv, rfl, hO, hb⟩
  obtain ⟨aJ, cJ, rfl, _⟩ := hO.tab
  rw [List.length_map] at hO ⊢
  obtain ⟨nJ, hnJ⟩ : ∃ u, BJ.length = u := ⟨_, rfl⟩
  rw [hnJ] at hO ⊢
  have HNJ := Lib.hid hnJ
  have hz := SF.new (S := SJ) (K := KJ) hO
  have HBn := below_on (below_on HB4.out hb) hz.2
  replace SA := Lib.hid ((SA.out.below hb).below hz.2)
  replace SB := Lib.hid ((SB.out.below hb).below hz.2)
  replace SFP := Lib.hid ((SFP.out.below hb).below hz.2)
  obtain ⟨v6, hv⟩ : ∃ v, v5.alloc (.cells #[.int .i64 SJ, .int .i64 KJ, .slice aJ nJ cJ] 24) = v := ⟨_, rfl⟩
  rw [hv] at hz HBn SA SB SFP
  obtain ⟨XJ, hX⟩ : ∃ X, v5.heap.size = X := ⟨_, rfl⟩
  rw [hX] at hz
  have SFJ := Lib.hid hz.1
  have HB6 := Lib.hid HBn
  have HVX := Lib.hid (And.intro hv hX)
  clear hz HBn hb hO hnJ hv hX CJ HB4
  go_upto_region 4 with fail
  rw [HVX.out.1, HVX.out.2]
  clear HVX
  obtain ⟨a0, a1, a2⟩ := SA.out.cells
  go_wp2_with fail
  clear a0 a1 a2
  refine (C4.out _).mono ?_
  rintro e v7 ⟨rfl, hb⟩
  replace SA := Lib.hid (SA.out.below hb)
  replace SB := Lib.hid (SB.out.below hb)
  replace SFP := Lib.hid (SFP.out.below hb)
  replace SFJ := Lib.hid (SFJ.out.below hb)
  have HB7 := Lib.hid (below_on HB6.out hb)
  clear hb C4 HB6
  obtain ⟨a0, a1, a2⟩ := SA.out.cells
  have t1 : (E != E) = false := by simp
  have t2 : (E == E) = true := by simp
  go_wp2_with fail
  clear a0 a1 a2
  refine (C5.out _).mono ?_
  rintro e v8 ⟨rfl, hb⟩
  replace SA := Lib.hid (SA.out.below hb)
  replace SB := Lib.hid (SB.out.below hb)
  replace SFP := Lib.hid (SFP.out.below hb)
  replace SFJ := Lib.hid (SFJ.out.below hb)
  have HB8 := Lib.hid (below_on HB7.out hb)
  clear hb C5 HB7
  go_wp2_with fail
  refine (C6.out _).mono ?_
  rintro e v9 ⟨rfl, hb⟩
  replace SA := Lib.hid (SA.out.below hb)
  replace SB := Lib.hid (SB.out.below hb)
  replace SFP := Lib.hid (SFP.out.below hb)
  replace SFJ := Lib.hid (SFJ.out.below hb)
  have HB9 := Lib.hid (below_on HB8.out hb)
  clear hb C6 HB8
  by_cases hE : E ≠ 0
  · have t3 : (E != 0) = true := by simpa using hE
    obtain rfl : J = E := HJE.out.1 hE
    obtain ⟨rfl, rfl, rfl⟩ : SP = 0 ∧ KP = 0 ∧ BP = [] := by
      rcases CP1.out with ⟨_, h1, h2, h3⟩ | ⟨h, _⟩
      · exact ⟨h1, h2, h3⟩
      · exact absurd h hE
    obtain rfl : nP = 0 := HNP.out.symm
    obtain ⟨rfl, rfl, rfl⟩ : SJ = 0 ∧ KJ = 0 ∧ BJ = [] := by
      rcases CJ1.out with ⟨_, h1, h2, h3⟩ | ⟨h, _⟩
      · exact ⟨h1, h2, h3⟩
      · exact absurd h hE
    obtain rfl : nJ = 0 := HNJ.out.symm
    obtain rfl : h1 = false := by
      rcases CA1.out with ⟨_, h⟩ | ⟨h, _⟩
      · exact h
      · exact absurd h hE
    have D1 := Lib.hid (fun W (h : Tab W aP 0 cP 1 (([] : List Bool).map bC)) => sameF_any 0 0 0 0 aP none 0 cP 0 0 [] [] W h (nil_tabB W) true (by simp))
    have D2 := Lib.hid (fun W (h : Tab W aJ 0 cJ 1 (([] : List Bool).map bC)) => sameF_any 0 0 0 0 aJ none 0 cJ 0 0 [] [] W h (nil_tabB W) true (by simp))
    obtain ⟨p0, p1, p2⟩ := SFP.out.cells
    clear hE CP1 CJ1 CA1 HE HJ HJE HNP HNJ C7
    go_wp2_with fail
    clear p0 p1 p2
    refine (D1.out _ SFP.out.2).mono ?_
    rintro e v10 ⟨rfl, hb⟩
    replace SFJ := Lib.hid (SFJ.out.below hb)
    replace HB9 := Lib.hid (below_on HB9.out hb)
    clear hb D1
    obtain ⟨p0, p1, p2⟩ := SFJ.out.cells
    go_wp2_with fail
    clear p0 p1 p2
    refine (D2.out _ SFJ.out.2).mono ?_
    rintro e v11 ⟨rfl, hb⟩
    replace HB9 := Lib.hid (below_on HB9.out hb)
    clear hb D2
    go_wp2_with fail
    go_ret
    exact ⟨rfl, HB9.out⟩
  obtain rfl : E = 0 := by omega
  clear hE
  obtain ⟨s, k, e1, e2, hs1, hs2, hk1, hk2, hs3⟩ := filterE_zero HE.out.1
  subst e1 e2 hs3
  have HCl := Lib.hid (fun W (h : Tab W a len cap 1 (B.map bC)) => clone_bools a len cap B W h (by omega))
  have hXA : XA < v9.heap.size := (Array.getElem?_eq_some_iff.1 SA.out.1).1
  have XPlt := Lib.hid (show XP < v9.heap.size from (Array.getElem?_eq_some_iff.1 SFP.out.1).1)
  have XJlt := Lib.hid (show XJ < v9.heap.size from (Array.getElem?_eq_some_iff.1 SFJ.out.1).1)
  have XBlt := Lib.hid (show XA + 1 < v9.heap.size from (Array.getElem?_eq_some_iff.1 SB.out.1).1)
  have HBV := Lib.hid HB9.out.size
  go_upto_region 9 with fail
  go_cut [14] (fun p wx => ∃ (Y g c : Nat), p = .pointer (some ⟨Y, 0, none⟩) ∧ Hid (wx.heap[Y]? = some (.cells #[.int .i64 len, .int .i64 k, .slice (some ⟨g, 0, none⟩) len c] 24 (0, 0))) ∧ Hid (Own wx v9.heap.size 4 1 (.slice (some ⟨g, 0, none⟩) len c) (B.map bC)) ∧ Hid (Below v9.heap.size v9 wx) ∧ Hid (v9.heap.size ≤ Y ∧ v9.heap.size ≤ g ∧ Y ≠ g))
  case first =>
    have HTA := Lib.hid SA.out.2
    obtain ⟨c0, c1, c2⟩ := SA.out.cells
    obtain ⟨ka0, ka1, ka2⟩ := (SA.out.below ((Below.refl v9.heap.size v9).alloc (Nat.le_refl _) (.cells #[.int .i64 0, .int .i64 0, .slice none 0 0] 24))).cells
    have HX1 : Hid ((v9.alloc (.cells #[.int .i64 0, .int .i64 0, .slice none 0 0] 24)).heap[v9.heap.size]? = some (.cells #[.int .i64 0, .int .i64 0, .slice none 0 0] 24 (0, 0))) := Lib.hid (MapKept.heap_alloc v9 _).1
    have hne0 : XA ≠ v9.heap.size := by omega
    obtain ⟨cd0, cd1, cd2⟩ := (SA.out.below (Below.refl v9.heap.size v9).drew).cells
    obtain ⟨kad0, kad1, kad2⟩ := (SA.out.below ((Below.refl v9.heap.size v9).alloc (Nat.le_refl _) (.cells #[.int .i64 0, .int .i64 0, .slice none 0 0] 24)).drew).cells
    clear SB SFP SFJ HB9 CP1 CA1 CJ1 HE HJ HJE HNP HNJ C7 t1 t2 hm1 hm2
    go_wp2_with fail
    go_region_held3 (fun W => W.cell? ⟨XA, 0, none⟩ = some (.int .i64 len) ∧ W.cell? ⟨XA, 1, none⟩ = some (.int .i64 k) ∧ W.cell? ⟨XA, 2, none⟩ = some (.slice a len cap)) (first | with_reducible exact ⟨c0, c1, c2⟩ | with_reducible exact ⟨cd0, cd1, cd2⟩ | with_reducible exact ⟨ka0, ka1, ka2⟩ | with_reducible exact ⟨kad0, kad1, kad2⟩ | with_reducible exact ⟨d0, d1, d2⟩ | with_reducible exact ⟨m0, m1, m2⟩ | with_reducible exact keep3 ⟨d0, d1, d2⟩ hne0 | with_reducible exact keep3 ⟨m0, m1, m2⟩ hne5 | with_reducible exact keep3 ⟨d0, d1, d2⟩ hne5 | go_keep) (first
      | (go_at_call 15; refine Calls.mono (HCl.out _ ?_) ?_; (first | exact HTA.out | exact HTA.out.below ((Below.refl _ _).drew) | exact HTA.out.below ((Below.refl _ _).alloc (Nat.le_refl _) _) | exact HTA.out.below ((Below.refl _ _).alloc (Nat.le_refl _) _).drew); rintro e w5 ⟨q5, rfl, hO5, hb5⟩; obtain ⟨g5, c5, rfl, hg5, hg6⟩ := own_spotB hO5 (by rw [HLL.out.1]; exact hs1); rw [HLL.out.1] at hO5 ⊢; have hb5w : Below v9.heap.size v9 w5 := (by first | exact (Below.refl _ _).drew.trans hb5 | exact (((Below.refl _ _).alloc (Nat.le_refl _) _).drew).trans (hb5.mono (by simp))); obtain ⟨d0, d1, d2⟩ := (SA.out.below hb5w).cells; obtain ⟨m0, m1, m2⟩ := (SA.out.below (hb5w.alloc hb5w.size (.cells #[.int .i64 0, .int .i64 0, .slice none 0 0] 24))).cells; have hne5 : XA ≠ w5.heap.size := (by have h5 := hb5w.size; omega); (first | (have hZ5 := Lib.hid (kept_blk3 (drew_below5 hb5) HX1.out); obtain ⟨⟨p0, p1, p2⟩, p3, p4, p5⟩ := three_cells hZ5.out) | (have hZ5 := Lib.hid (MapKept.heap_alloc w5 (.cells #[.int .i64 0, .int .i64 0, .slice none 0 0] 24)).1; obtain ⟨⟨p0, p1, p2⟩, p3, p4, p5⟩ := three_cells hZ5.out))))
    all_goals
      go_wp2_with fail
      have hs5 := hb5w.size
      simp at hg5
      go_meet
      case rel =>
        first
        | exact ⟨w5.heap.size, g5, c5, rfl, Lib.hid (MapKept.heap_alloc w5 _).1, Lib.hid ((hO5.alloc _).base_le (by simp; try omega)), Lib.hid (hb5w.alloc hs5 _), Lib.hid ⟨hs5, by omega, by omega⟩⟩
        | exact ⟨v9.heap.size, g5, c5, rfl, Lib.hid (three_set hZ5.out), Lib.hid ((((hO5.setCell (a := ⟨v9.heap.size, 0, none⟩) (by simp) _).setCell (a := ⟨v9.heap.size, 1, none⟩) (by simp) _).setCell (a := ⟨v9.heap.size, 2, none⟩) (by simp) _).base_le (by simp)), Lib.hid (((hb5w.setCell (p := ⟨v9.heap.size, 0, none⟩) (Nat.le_refl _) _).setCell (p := ⟨v9.heap.size, 1, none⟩) (Nat.le_refl _) _).setCell (p := ⟨v9.heap.size, 2, none⟩) (Nat.le_refl _) _), Lib.hid ⟨Nat.le_refl _, by omega, by omega⟩⟩
  case rest =>
  obtain ⟨Y, g, cg, rfl, K14, HO, HBY, HYG⟩ := hcut
  have SA9 := SA
  have SB9 := SB
  have SP9 := SFP
  have SJ9 := SFJ
  obtain ⟨wq, hwq⟩ : ∃ wq, wq = wc := ⟨_, rfl⟩
  subst hwq
  replace SA := Lib.hid (SA.out.below HBY.out)
  replace SB := Lib.hid (SB.out.below HBY.out)
  replace SFP := Lib.hid (SFP.out.below HBY.out)
  replace SFJ := Lib.hid (SFJ.out.below HBY.out)
  have HBW9 := HB9
  replace HB9 := Lib.hid (below_on HB9.out HBY.out)
  obtain ⟨rfl, rfl, hBP⟩ : SP = (len : Int) ∧ KP = (k : Int) ∧ BP = putB B (places x len k) := by
    rcases CP1.out with ⟨h, _⟩ | ⟨_, h1, h2, h3⟩
    · exact absurd rfl h
    · rw [Int.toNat_natCast, Int.toNat_natCast] at h3
      exact ⟨h1, h2, h3⟩
  have hh1 : h1 = hasB B (places x len k) := by
    rcases CA1.out with ⟨h, _⟩ | ⟨_, h2⟩
    · exact absurd rfl h
    · rw [Int.toNat_natCast, Int.toNat_natCast] at h2
      exact h2
  have hnP : nP = len := by rw [← HNP.out, hBP, putB_len]; exact HLL.out.1
  subst hnP
  have HPL := Lib.hid (fun W => refPlaces_any nP k a nP cap x hs1 hs2 hk2 W)
  have hPlen := places_len x nP k
  have hPlt := places_lt (k := x) (n := k) hs1
  have hup : placesUp x nP k = (places x nP k).map (fun p : Nat => (p : Int)) := rfl
  rw [hup] at HPL
  obtain ⟨P, hP⟩ : ∃ P, places x nP k = P := ⟨_, rfl⟩
  rw [hP] at HPL hBP hh1 hPlen hPlt
  have HPP := Lib.hid (And.intro hBP (And.intro hh1 (And.intro hPlen hPlt)))
  have hXAq : XA < v9.heap.size := hXA
  have HXA2 := Lib.hid hXAq
  clear hBP hh1 hup hP hPlen hPlt CP1 CA1 HNP hXA hXAq HCl
  have hXP : XP < v9.heap.size := XPlt.out
  have hXJ : XJ < v9.heap.size := XJlt.out
  have HXP := Lib.hid (And.intro hXP hXJ)
  clear hXP hXJ
  obtain ⟨a0, a1, a2⟩ := SA.out.cells
  go_wp2_with fail
  clear a0 a1 a2
  refine (HPL.out _).mono ?_
  rintro e v10 ⟨q10, rfl, hO, hb⟩
  obtain ⟨aq, cq, rfl, hT⟩ := hO.tab
  rw [List.length_map, List.length_map, HPP.out.2.2.1] at hT hO ⊢
  have HQ := Lib.hid hO
  replace SA := Lib.hid (SA.out.below hb)
  replace SB := Lib.hid (SB.out.below hb)
  replace SFP := Lib.hid (SFP.out.below hb)
  replace SFJ := Lib.hid (SFJ.out.below hb)
  have HB10 := Lib.hid (below_on HB9.out hb)
  have HV10 := Lib.hid (below_on HBY.out hb)
  have K10 := Lib.hid (kept_blk3 hb K14.out)
  have HO10 := Lib.hid (HO.out.below hb)
  have hgW : g < wq.heap.size := (own_spot_lt HO.out (by rw [HLL.out.1]; exact hs1))
  have hYW : Y < wq.heap.size := (Array.getElem?_eq_some_iff.1 K14.out).1
  obtain ⟨W9, hW9⟩ : ∃ n, v9.heap.size = n := ⟨_, rfl⟩
  have HW9 := Lib.hid hW9
  have hw9 : w.heap.size ≤ W9 := by rw [← hW9]; exact HBV.out
  rw [hW9] at HO10 HYG HXA2 HXP
  obtain ⟨Wq, hWq⟩ : ∃ n, wq.heap.size = n := ⟨_, rfl⟩
  rw [hWq] at HQ hgW hYW
  have HGW := Lib.hid (And.intro hgW (And.intro hYW hw9))
  have e0 : putB B (P.take 0) = B := by rw [List.take_zero]; rfl
  rw [← e0] at HO10
  have e1 : true = hasB B (P.take 0) := by rw [List.take_zero]; rfl
  have HE1 := Lib.hid e1
  clear hO hT hb HPL HB9 K14 HO HBY hgW hYW hW9 hWq hw9 e0 e1
  clear SA SB SFP SFJ HB10
  go_wp2_with fail
  go_loopg [15, 90] k (fun n u i wr => ∃ t : Nat, t + n = k ∧ i = .int .i64 t ∧ u = .bool (hasB B (P.take t)) ∧ Hid (Own wr W9 4 1 (.slice (some ⟨g, 0, none⟩) nP cg) ((putB B (P.take t)).map bC)) ∧ Hid (Own wr Wq 3 1 (.slice aq k cq) ((P.map (fun p : Nat => (p : Int))).map iC)) ∧ Hid (wr.heap[Y]? = some (.cells #[.int .i64 nP, .int .i64 k, .slice (some ⟨g, 0, none⟩) nP cg] 24 (0, 0))) ∧ Hid (Below v9.heap.size v9 wr))
  case atStart => exact ⟨0, by omega, rfl, by rw [← HE1.out], HO10, HQ, K10, HV10⟩
  case round =>
    clear HO10 HQ K10 HV10 HE1
    obtain ⟨t, ht0, rfl, rfl, HO, HQ, K1, HW⟩ := hrel
    have HJt := Lib.hid ht0
    have ht : t ≤ k := by omega
    clear ht0
    have SAw := Lib.hid (SA9.out.below HW.out)
    by_cases hlt : t < k
    · obtain ⟨p, hp⟩ : ∃ p, P[t]? = some p := ⟨_, List.getElem?_eq_getElem (by rw [HPP.out.2.2.1]; exact hlt)⟩
      have hpl := HPP.out.2.2.2 p (List.mem_of_getElem? hp)
      obtain ⟨b1, o1, ha, hbs, c0⟩ := HQ.out.tab_of.one (Below.refl _ _) (map_get (map_get hp))
      have hN : (putB B (P.take t)).set p true = putB B (P.take (t + 1)) := by
        rw [List.take_add_one, hp, Option.toList_some, putB_snoc]
      obtain ⟨y, hy⟩ : ∃ y, B[p]? = some y := ⟨_, List.getElem?_eq_getElem (by rw [HLL.out.1]; exact hpl)⟩
      have hHs : hasB B (P.take (t + 1)) = (hasB B (P.take t) && y) := by
        rw [List.take_add_one, hp, Option.toList_some, hasB_snoc hy]
      obtain ⟨z, hz⟩ : ∃ z, (putB B (P.take t))[p]? = some z := ⟨_, List.getElem?_eq_getElem (by rw [putB_len, HLL.out.1]; exact hpl)⟩
      obtain ⟨b2, o2, ha2, hbs2, c9⟩ := SAw.out.2.one (Below.refl _ _) (map_get hy)
      obtain ⟨d1, d2, _, _⟩ := HO.out.at1 (map_get hz)
      have hS := HO.out.set1 (map_get hz) (.bool true)
      rw [← show bC true = [Value.bool true] from rfl, ← List.map_set, hN] at hS
      have HS := Lib.hid hS
      have HQ2 := Lib.hid (HQ.out.setCell (a := ⟨g, p, none⟩) HGW.out.1 (.bool true))
      have HW2 := Lib.hid (HW.out.setCell (p := ⟨g, p, none⟩) (by show v9.heap.size ≤ g; rw [HW9.out]; exact HYG.out.2.1) (.bool true))
      have J1 := Lib.hid (blk_else3 (a := ⟨g, p, none⟩) (v := .bool true) K1.out HYG.out.2.2)
      have HHS := Lib.hid hHs
      obtain ⟨a0, a1, a2⟩ := SAw.out.cells
      obtain ⟨⟨y0, y1, y2⟩, _⟩ := three_cells K1.out
      have HA2 := Lib.hid ha2
      rw [ha2] at a2
      subst ha
      generalize hasB B (P.take t) = h at *
      clear hp hN hy hHs hz hS ha2 SAw HO HQ K1 HW hbs hbs2
      cases h
      · rw [Bool.false_and] at HHS
        clear a0 a1 a2 c9
        go_wp2_with fail
        go_roundg (k - (t + 1))
        case measure => have := HJt.out; omega
        case rel => exact ⟨t + 1, by omega, by go_num, by rw [HHS.out], HS, HQ2, J1, HW2⟩
      · rw [Bool.true_and] at HHS
        go_wp2_with fail
        go_roundg (k - (t + 1))
        case measure => have := HJt.out; omega
        case rel => exact ⟨t + 1, by omega, by go_num, by rw [HHS.out], HS, HQ2, J1, HW2⟩
    · obtain rfl : t = k := by omega
      rw [List.take_of_length_le (by rw [HPP.out.2.2.1]; exact Nat.le_refl _), ← HPP.out.1] at HO
      rw [List.take_of_length_le (by rw [HPP.out.2.2.1]; exact Nat.le_refl _), ← HPP.out.2.1]
      have hnB : BP.length = nP := by rw [HPP.out.1, putB_len]; exact HLL.out.1
      have SPw := Lib.hid (SP9.out.below HW.out)
      have hTg := HO.out.tab_of
      have D1 := Lib.hid (sameF_any nP t nP t aP (some ⟨g, 0, none⟩) nP cP nP cg BP BP wr SPw.out.2 hTg true (by simp))
      obtain ⟨p0, p1, p2⟩ := SPw.out.cells
      obtain ⟨⟨y0, y1, y2⟩, _⟩ := three_cells K1.out
      have th : (h1 != h1) = false := by simp
      obtain ⟨wl, hwl⟩ : ∃ wl, wl = wr := ⟨_, rfl⟩
      subst hwl
      clear hTg hnB HPP SAw HO HQ K1 SPw SP9
      go_wp2_with fail
      clear p0 p1 p2 y0 y1 y2
      refine D1.out.mono ?_
      rintro e v11 ⟨rfl, hb⟩
      have HW11 := Lib.hid (below_on HW.out hb)
      have SBw := Lib.hid (SB9.out.below HW11.out)
      obtain ⟨b0, b1, b2⟩ := SBw.out.cells
      clear hb HW D1
      go_wp2_with fail
      clear b0 b1 b2
      refine (C7.out _).mono ?_
      rintro e v12 ⟨rfl, hb⟩
      have HW12 := Lib.hid (below_on HW11.out hb)
      have SBx := Lib.hid (SB9.out.below HW12.out)
      have SAx := Lib.hid (SA9.out.below HW12.out)
      have SJx := Lib.hid (SJ9.out.below HW12.out)
      have HBx := Lib.hid (below_on HBW9.out HW12.out)
      clear hb HW11 SBw C7 th
      have hJD := HJE.out.2
      rw [if_neg (by decide)] at hJD
      by_cases hJ : J ≠ 0
      · obtain ⟨rfl, rfl, rfl⟩ : SJ = 0 ∧ KJ = 0 ∧ BJ = [] := by
          rcases CJ1.out with ⟨_, h1, h2, h3⟩ | ⟨h, _⟩
          · exact ⟨h1, h2, h3⟩
          · exact absurd h hJ
        obtain rfl : nJ = 0 := HNJ.out.symm
        have D2 := Lib.hid (fun W (h : Tab W aJ 0 cJ 1 (([] : List Bool).map bC)) => sameF_any 0 0 0 0 aJ none 0 cJ 0 0 [] [] W h (nil_tabB W) true (by simp))
        have tJ : (J != 0) = true := by simpa using hJ
        have tJ2 : (J == J) = true := by simp
        obtain ⟨a0, a1, a2⟩ := SAx.out.cells
        obtain ⟨b0, b1, b2⟩ := SBx.out.cells
        obtain ⟨p0, p1, p2⟩ := SJx.out.cells
        clear CJ1 HNJ HE HJ HJE
        by_cases hE2 : E2 ≠ 0
        · rw [if_pos hE2] at hJD
          subst hJD
          have tE : (J == 0) = false := by simpa using hE2
          clear hJ hE2
          go_wp2_with fail
          refine (D2.out _ SJx.out.2).mono ?_
          rintro e v13 ⟨rfl, hb⟩
          replace HBx := Lib.hid (below_on HBx.out hb)
          clear hb
          go_wp2_with fail
          go_ret
          exact ⟨rfl, HBx.out⟩
        · obtain rfl : E2 = 0 := by omega
          rw [if_neg (by decide)] at hJD
          by_cases hS : (nP : Int) ≠ S2
          · obtain rfl : J = 7 := by rw [hJD, if_pos (Or.inl hS)]
            have tS : ((nP : Int) != S2) = true := by simpa using hS
            clear hJ hE2 hJD hS
            go_wp2_with fail
            refine (D2.out _ SJx.out.2).mono ?_
            rintro e v13 ⟨rfl, hb⟩
            replace HBx := Lib.hid (below_on HBx.out hb)
            clear hb
            go_wp2_with fail
            go_ret
            exact ⟨rfl, HBx.out⟩
          · have hK : (t : Int) ≠ K2 := by
              intro hK
              rw [if_neg (by intro h; rcases h with h | h; exact hS h; exact h hK)] at hJD
              exact hJ hJD
            obtain rfl : J = 7 := by rw [hJD, if_pos (Or.inr hK)]
            have tS : ((nP : Int) != S2) = false := by simpa using hS
            have tK : ((t : Int) != K2) = true := by simpa using hK
            clear hJ hE2 hJD hS hK
            go_wp2_with fail
            refine (D2.out _ SJx.out.2).mono ?_
            rintro e v13 ⟨rfl, hb⟩
            replace HBx := Lib.hid (below_on HBx.out hb)
            clear hb
            go_wp2_with fail
            go_ret
            exact ⟨rfl, HBx.out⟩
      obtain rfl : J = 0 := by omega
      obtain ⟨z1, z2, z3, z4, z5⟩ := joinFE_zero HJ.out
      have hE20 : E2 = 0 := by rw [← HE.out.2]; exact z2
      subst z3 z4 z5 hE20
      obtain ⟨rfl, rfl, hBJ⟩ : SJ = (len2 : Int) ∧ KJ = (t : Int) ∧ BJ = orB B C := by
        rcases CJ1.out with ⟨h, _⟩ | ⟨_, h1, h2, h3⟩
        · exact absurd rfl h
        · exact ⟨h1, h2, h3⟩
      have hnJ : nJ = len2 := by rw [← HNJ.out, hBJ, orB_len (by rw [HLL.out.1, HLL.out.2])]; exact HLL.out.1
      have HBJ := Lib.hid hBJ
      subst hnJ
      have tS : ((nJ : Int) != (nJ : Int)) = false := by simp
      have tK : ((t : Int) != (t : Int)) = false := by simp
      obtain ⟨a0, a1, a2⟩ := SAx.out.cells
      obtain ⟨b0, b1, b2⟩ := SBx.out.cells
      have hal : Below v12.heap.size v12 (v12.alloc (.cells #[.int .i64 nJ, .int .i64 t, .slice none 0 0] 24)) := (Below.refl _ _).alloc (Nat.le_refl _) _
      have HZ0 := Lib.hid (MapKept.heap_alloc v12 (.cells #[.int .i64 nJ, .int .i64 t, .slice none 0 0] 24)).1
      have HAL := Lib.hid hal
      have hV0 : Own (v12.alloc (.cells #[.int .i64 nJ, .int .i64 t, .slice none 0 0] 24)) (v12.heap.size + 1) 4 1 (.slice none 0 0) (((orB B C).take 0).map bC) := Own.nil _ _ _ _
      have HV0 := Lib.hid hV0
      obtain ⟨v13, hv13⟩ : ∃ v, v12.alloc (.cells #[.int .i64 nJ, .int .i64 t, .slice none 0 0] 24) = v := ⟨_, rfl⟩
      obtain ⟨Z, hZ⟩ : ∃ Z, v12.heap.size = Z := ⟨_, rfl⟩
      rw [hv13] at HZ0 HAL HV0
      rw [hZ] at HZ0 HV0
      have HVX := Lib.hid (And.intro hv13 hZ)
      have hZs : Z < v13.heap.size := (Array.getElem?_eq_some_iff.1 HZ0.out).1
      have HZV := Lib.hid hZ
      clear hal hV0 hv13 hZ z1 z2 hBJ CJ1 HNJ HE HJ HJE hJD hJ
      go_upto_region 25 with fail
      rw [HVX.out.1, HVX.out.2]
      clear HVX a0 a1 a2 b0 b1 b2
      obtain ⟨a0, a1, a2⟩ := (SAx.out.below HAL.out).cells
      go_wp2_with fail
      clear a0 a1 a2
      go_loopg [160] nJ (fun n i wr => ∃ (t2 : Nat) (v : Value), t2 + n = nJ ∧ i = .int .i64 t2 ∧ Hid (wr.heap[Z]? = some (.cells #[.int .i64 nJ, .int .i64 t, v] 24 (0, 0))) ∧ Hid (Own wr (Z + 1) 4 1 v (((orB B C).take t2).map bC)) ∧ Hid (Below v12.heap.size v12 wr))
      case atStart => exact ⟨0, _, by omega, rfl, HZ0, HV0, HAL⟩
      case round =>
        clear HZ0 HV0 HAL
        obtain ⟨t2, v, ht0, rfl, KZ, HV, HW⟩ := hrel
        have HJ2 := Lib.hid ht0
        have ht2 : t2 ≤ nJ := by omega
        clear ht0
        have SAz := Lib.hid (SAx.out.below HW.out)
        have SBz := Lib.hid (SBx.out.below HW.out)
        have hZo : Z < wr.heap.size := (Array.getElem?_eq_some_iff.1 KZ.out).1
        obtain ⟨wo, hwo⟩ : ∃ wo, wo = wr := ⟨_, rfl⟩
        subst hwo
        by_cases hlt : t2 < nJ
        · obtain ⟨y, hy⟩ : ∃ y, B[t2]? = some y := ⟨_, List.getElem?_eq_getElem (by rw [HLL.out.1]; exact hlt)⟩
          obtain ⟨z, hz⟩ : ∃ y, C[t2]? = some y := ⟨_, List.getElem?_eq_getElem (by rw [HLL.out.2]; exact hlt)⟩
          obtain ⟨b1, o1, ha, hbs1, d8⟩ := SAx.out.2.one (Below.refl _ _) (map_get hy)
          obtain ⟨b3, o3, ha3, hbs3, d9⟩ := SBx.out.2.one (Below.refl _ _) (map_get hz)
          have c8 := (HW.out.cell (p := ⟨b1, o1 + t2, none⟩) hbs1).trans d8
          have c9 := (HW.out.cell (p := ⟨b3, o3 + t2, none⟩) hbs3).trans d9
          have hN : (orB B C).take (t2 + 1) = (orB B C).take t2 ++ [y || z] := by rw [List.take_add_one, orB_get hy hz]; rfl
          have HN := Lib.hid hN
          have HLV : Hid ((((orB B C).take t2).map bC).length = t2) := Lib.hid (by rw [List.length_map, List.length_take, orB_len (by rw [HLL.out.1, HLL.out.2]), HLL.out.1]; omega)
          obtain ⟨⟨y0, y1, y2⟩, f0, f1, f2⟩ := three_cells KZ.out
          obtain ⟨a0, a1, a2⟩ := SAz.out.cells
          obtain ⟨b0, b1', b2⟩ := SBz.out.cells
          have hsZ := HW.out.size
          obtain ⟨LV, hLV⟩ : ∃ LV, (orB B C).take t2 = LV := ⟨_, rfl⟩
          rw [hLV] at HV HN HLV
          clear hLV
          subst ha ha3
          clear hN hy hz SAz SBz SJx
          cases y
          · rw [Bool.false_or] at HN
            have FA : ∀ W, Below v12.heap.size v12 W → W.cell? ⟨XA, 2, none⟩ = some (.slice (some ⟨b1, o1, none⟩) nJ cap) ∧ W.cell? ⟨b1, o1 + t2, none⟩ = some (.bool false) ∧ W.cell? ⟨XA + 1, 2, none⟩ = some (.slice (some ⟨b3, o3, none⟩) nJ cap2) ∧ W.cell? ⟨b3, o3 + t2, none⟩ = some (.bool z) := fun W hb => by
              have q1 := (SAx.out.below hb).cells.2.2
              have q2 := (hb.cell (p := ⟨b1, o1 + t2, none⟩) hbs1).trans d8
              exact ⟨q1, q2, (SBx.out.below hb).cells.2.2, (hb.cell (p := ⟨b3, o3 + t2, none⟩) hbs3).trans d9⟩
            have h0 := HW.out
            have h0d := HW.out.drew
            have h1 := HW.out.alloc hsZ (.cells #[.bool z] 4)
            have h1d := h1.drew
            have kz2 : (wo.alloc (.cells #[.bool z] 4)).cell? ⟨Z, 2, none⟩ = some v := cell_blk ((Below.heap_alloc wo (.cells #[.bool z] 4) Z hZo).trans KZ.out) rfl
            have H0 := Lib.hid h0
            have H0D := Lib.hid h0d
            have H1 := Lib.hid h1
            have H1D := Lib.hid h1d
            have HFA := Lib.hid FA
            clear h0 h0d h1 h1d FA
            go_wp2_with fail
            refine wp_region_held_drew (S := (fun W => W.cell? ⟨XA, 2, none⟩ = some (.slice (some ⟨b1, o1, none⟩) nJ cap) ∧ W.cell? ⟨b1, o1 + t2, none⟩ = some (.bool false) ∧ W.cell? ⟨XA + 1, 2, none⟩ = some (.slice (some ⟨b3, o3, none⟩) nJ cap2) ∧ W.cell? ⟨b3, o3 + t2, none⟩ = some (.bool z))) (by kernel_rfl) (HFA.out _ H0D.out) (fun hHeld => ?_)
            refine wpAnyH_take (i := 0) (oi := (⟨some 163, .fieldAddr 24 (.tmp 18) 2, 0, "high.go:138", #[], none⟩ : Oper)) (v := ?_) rfl (by kernel_rfl) (by kernel_rfl) (by kernel_rfl) (fun _ _ _ h => h) (Or.inl ⟨by rfl, ?_⟩) (by assumption) ?_
            rotate_left 1
            · (intro w hSw; (try dsimp only at hSw); go_simp; try with_reducible rfl)
            try simp only [Act.put, List.setIfInBounds_toArray, List.set_cons_zero, List.set_cons_succ]
            refine wpAnyH_take (i := 2) (oi := (⟨some 165, .fieldAddr 24 (.tmp 3) 2, 0, "high.go:138", #[], none⟩ : Oper)) (v := ?_) rfl (by kernel_rfl) (by kernel_rfl) (by kernel_rfl) (fun _ _ _ h => h) (Or.inl ⟨by rfl, ?_⟩) (by assumption) ?_
            rotate_left 1
            · (intro w hSw; (try dsimp only at hSw); go_simp; try with_reducible rfl)
            try simp only [Act.put, List.setIfInBounds_toArray, List.set_cons_zero, List.set_cons_succ]
            refine wpAnyH_take (i := 3) (oi := (⟨some 166, .load 22 (.tmp 165), 22, "high.go:138", #[⟨2, .data⟩], none⟩ : Oper)) (v := ?_) rfl (by kernel_rfl) (by kernel_rfl) (by kernel_rfl) (fun _ _ _ h => h) (Or.inl ⟨by rfl, ?_⟩) (by assumption) ?_
            rotate_left 1
            · (intro w hSw; (try dsimp only at hSw); go_simp; try with_reducible rfl)
            try simp only [Act.put, List.setIfInBounds_toArray, List.set_cons_zero, List.set_cons_succ]
            refine wpAnyH_take (i := 4) (oi := (⟨some 167, .move (.tmp 19), 3, "high.go:138", #[], none⟩ : Oper)) (v := ?_) rfl (by kernel_rfl) (by kernel_rfl) (by kernel_rfl) (fun _ _ _ h => h) (Or.inl ⟨by rfl, ?_⟩) (by assumption) ?_
            rotate_left 1
            · (intro w hSw; (try dsimp only at hSw); go_simp; try with_reducible rfl)
            try simp only [Act.put, List.setIfInBounds_toArray, List.set_cons_zero, List.set_cons_succ]
            refine wpAnyH_take (i := 5) (oi := (⟨some 168, .indexAddr 22 (.tmp 166) (.tmp 167), 0, "high.go:138", #[⟨3, .data⟩, ⟨4, .data⟩], none⟩ : Oper)) (v := ?_) rfl (by kernel_rfl) (by kernel_rfl) (by kernel_rfl) (fun _ _ _ h => h) (Or.inl ⟨by rfl, ?_⟩) (by assumption) ?_
            rotate_left 1
            · (intro w hSw; (try dsimp only at hSw); go_simp; try with_reducible rfl)
            try simp only [Act.put, List.setIfInBounds_toArray, List.set_cons_zero, List.set_cons_succ]
            refine wpAnyH_take (i := 6) (oi := (⟨some 169, .load 4 (.tmp 168), 4, "high.go:138", #[⟨5, .data⟩], none⟩ : Oper)) (v := ?_) rfl (by kernel_rfl) (by kernel_rfl) (by kernel_rfl) (fun _ _ _ h => h) (Or.inl ⟨by rfl, ?_⟩) (by assumption) ?_
            rotate_left 1
            · (intro w hSw; (try dsimp only at hSw); go_simp; try with_reducible rfl)
            try simp only [Act.put, List.setIfInBounds_toArray, List.set_cons_zero, List.set_cons_succ]
            refine wpAnyH_take (i := 7) (oi := (⟨some 170, .move (.tmp 169), 4, "high.go:138", #[⟨6, .data⟩], none⟩ : Oper)) (v := ?_) rfl (by kernel_rfl) (by kernel_rfl) (by kernel_rfl) (fun _ _ _ h => h) (Or.inl ⟨by rfl, ?_⟩) (by assumption) ?_
            rotate_left 1
            · (intro w hSw; (try dsimp only at hSw); go_simp; try with_reducible rfl)
            try simp only [Act.put, List.setIfInBounds_toArray, List.set_cons_zero, List.set_cons_succ]
            refine wpAnyH_take (i := 8) (oi := (⟨some 171, .fieldAddr 24 (.tmp 4) 2, 0, "high.go:138", #[⟨7, .guard⟩], some (7, false)⟩ : Oper)) (v := ?_) rfl (by kernel_rfl) (by kernel_rfl) (by kernel_rfl) (fun _ _ _ h => h) (Or.inl ⟨by rfl, ?_⟩) (by assumption) ?_
            rotate_left 1
            · (intro w hSw; (try dsimp only at hSw); go_simp; try with_reducible rfl)
            try simp only [Act.put, List.setIfInBounds_toArray, List.set_cons_zero, List.set_cons_succ]
            refine wpAnyH_take (i := 9) (oi := (⟨some 172, .load 22 (.tmp 171), 22, "high.go:138", #[⟨8, .data⟩, ⟨7, .guard⟩], some (7, false)⟩ : Oper)) (v := ?_) rfl (by kernel_rfl) (by kernel_rfl) (by kernel_rfl) (fun _ _ _ h => h) (Or.inl ⟨by rfl, ?_⟩) (by assumption) ?_
            rotate_left 1
            · (intro w hSw; (try dsimp only at hSw); go_simp; try with_reducible rfl)
            try simp only [Act.put, List.setIfInBounds_toArray, List.set_cons_zero, List.set_cons_succ]
            refine wpAnyH_take (i := 10) (oi := (⟨some 173, .move (.tmp 19), 3, "high.go:138", #[⟨7, .guard⟩], some (7, false)⟩ : Oper)) (v := ?_) rfl (by kernel_rfl) (by kernel_rfl) (by kernel_rfl) (fun _ _ _ h => h) (Or.inl ⟨by rfl, ?_⟩) (by assumption) ?_
            rotate_left 1
            · (intro w hSw; (try dsimp only at hSw); go_simp; try with_reducible rfl)
            try simp only [Act.put, List.setIfInBounds_toArray, List.set_cons_zero, List.set_cons_succ]
            refine wpAnyH_take (i := 11) (oi := (⟨some 174, .indexAddr 22 (.tmp 172) (.tmp 173), 0, "high.go:138", #[⟨9, .data⟩, ⟨10, .data⟩, ⟨7, .guard⟩], some (7, false)⟩ : Oper)) (v := ?_) rfl (by kernel_rfl) (by kernel_rfl) (by kernel_rfl) (fun _ _ _ h => h) (Or.inl ⟨by rfl, ?_⟩) (by assumption) ?_
            rotate_left 1
            · (intro w hSw; (try dsimp only at hSw); go_simp; try with_reducible rfl)
            try simp only [Act.put, List.setIfInBounds_toArray, List.set_cons_zero, List.set_cons_succ]
            refine wpAnyH_take (i := 12) (oi := (⟨some 175, .load 4 (.tmp 174), 4, "high.go:138", #[⟨11, .data⟩, ⟨7, .guard⟩], some (7, false)⟩ : Oper)) (v := ?_) rfl (by kernel_rfl) (by kernel_rfl) (by kernel_rfl) (fun _ _ _ h => h) (Or.inl ⟨by rfl, ?_⟩) (by assumption) ?_
            rotate_left 1
            · (intro w hSw; (try dsimp only at hSw); go_simp; try with_reducible rfl)
            try simp only [Act.put, List.setIfInBounds_toArray, List.set_cons_zero, List.set_cons_succ]
            refine wpAnyH_take (i := 13) (oi := (⟨some 176, .pick (.tmp 170) (.const (.bool true)) (.tmp 175), 4, "high.go:138", #[⟨7, .data⟩, ⟨12, .data⟩], none⟩ : Oper)) (v := ?_) rfl (by kernel_rfl) (by kernel_rfl) (by kernel_rfl) (fun _ _ _ h => h) (Or.inl ⟨by rfl, ?_⟩) (by assumption) ?_
            rotate_left 1
            · (intro w hSw; (try dsimp only at hSw); go_simp; try with_reducible rfl)
            try simp only [Act.put, List.setIfInBounds_toArray, List.set_cons_zero, List.set_cons_succ]
            refine wpAnyH_ready (rs := [1, 14]) (by kernel_rfl) (by simp) ?_
            refine AllReadyH.cons rfl (fun K hK => ?_) (AllReadyH.cons rfl (fun K hK => ?_) AllReadyH.nil)
            · go_simp
              refine hK.out _ _ (HFA.out _ H0D.out) (fun hHeld => ?_)
              clear hK K
              try simp only [Act.put, List.setIfInBounds_toArray, List.set_cons_zero, List.set_cons_succ]
              refine wpAnyH_ready (rs := [14]) (by kernel_rfl) (by simp) ?_
              refine AllReadyH.cons rfl (fun K hK => ?_) AllReadyH.nil
              go_simp
              refine hK.out _ _ (HFA.out _ H1D.out) (fun hHeld => ?_)
              clear hK K
              try simp only [Act.put, List.setIfInBounds_toArray, List.set_cons_zero, List.set_cons_succ]
              refine wpAnyH_ready (rs := [15]) (by kernel_rfl) (by simp) ?_
              refine AllReadyH.cons rfl (fun K hK => ?_) AllReadyH.nil
              refine step_append_rows_if _ (by first | rfl | simp [Region.wanted, yielded, Act.put]) _ _ 22 rfl (Z + 1) 4 _ 1 1 Try.underlying22 info_bool rfl (by decide) v (LV.map bC) (by simp [Act.eval, Act.put]) (by first | exact (HV.out.alloc _).drew | exact HV.out.alloc _) ⟨wo.heap.size, 0, none⟩ 1 1 [bC z] (by decide) rfl (by simp [Act.eval, Act.put]) (by simp [bC]) (one_row _ (bC z) 4 _ (by simp)) (by simp [bC, Value.oneCell']) (by rw [HLV.out]; omega) (by decide) (by simp; omega) ?_
              intro g6 c6 w6 hO6 hg6
              have hk6 := Lib.hid ((hg6.block Z (by simp; omega) (fun e => own_not HV.out e)).trans ((Below.heap_alloc wo (.cells #[.bool z] 4) Z hZo).trans KZ.out))
              have hb6 := Lib.hid (((HV.out.alloc (.cells #[.bool z] 4)).drew).under H1D.out (by rw [HZV.out]; exact Nat.le_succ Z) (by simp; omega) hg6)
              obtain ⟨⟨u0, u1, u2⟩, u3, u4, u5⟩ := three_cells hk6.out
              have hb7 := Lib.hid (hb6.out.setCell (p := ⟨Z, 2, none⟩) (by show v12.heap.size ≤ Z; rw [HZV.out]; exact Nat.le_refl _) (.slice (some ⟨g6, 0, none⟩) (LV.length + 1) c6))
              refine hK.out _ _ (HFA.out _ hb6.out) (fun hHeld => ?_)
              clear hK K
              try simp only [Act.put, List.setIfInBounds_toArray, List.set_cons_zero, List.set_cons_succ]
              refine wpAnyH_take (i := 16) (oi := (⟨some 179, .fieldAddr 24 (.tmp 18) 2, 0, "high.go:138", #[⟨0, .phase⟩, ⟨1, .phase⟩, ⟨2, .phase⟩, ⟨3, .phase⟩, ⟨4, .phase⟩, ⟨5, .phase⟩, ⟨6, .phase⟩, ⟨7, .phase⟩, ⟨8, .phase⟩, ⟨9, .phase⟩, ⟨10, .phase⟩, ⟨11, .phase⟩, ⟨12, .phase⟩, ⟨13, .phase⟩, ⟨14, .phase⟩, ⟨15, .phase⟩], none⟩ : Oper)) (v := ?_) rfl (by kernel_rfl) (by kernel_rfl) (by kernel_rfl) (fun _ _ _ h => h) (Or.inl ⟨by rfl, ?_⟩) (by assumption) ?_
              rotate_left 1
              · (intro w hSw; (try dsimp only at hSw); go_simp; try with_reducible rfl)
              try simp only [Act.put, List.setIfInBounds_toArray, List.set_cons_zero, List.set_cons_succ]
              refine wpAnyH_ready (rs := [17]) (by kernel_rfl) (by simp) ?_
              refine AllReadyH.cons rfl (fun K hK => ?_) AllReadyH.nil
              go_simp
              refine hK.out _ _ (HFA.out _ hb7.out) (fun hHeld => ?_)
              clear hK K
              try simp only [Act.put, List.setIfInBounds_toArray, List.set_cons_zero, List.set_cons_succ]
              refine wpAnyH_done (by kernel_rfl) ?_ _
              go_wp2_with fail
              rw [List.length_map] at hO6
              go_roundg (nJ - (t2 + 1))
              case measure => have := HJ2.out; omega
              case rel =>
                refine ⟨t2 + 1, .slice (some ⟨g6, 0, none⟩) (LV.length + 1) c6, by omega, by go_num, Lib.hid ?_, Lib.hid ?_, hb7⟩
                · have h9 := heap_setCell_same w6 Z 2 _ _ (.slice (some ⟨g6, 0, none⟩) (LV.length + 1) c6) hk6.out
                  rw [h9]
                  rfl
                · rw [HN.out, List.map_append]
                  exact hO6.setCell (a := ⟨Z, 2, none⟩) (Nat.lt_succ_self Z) _
            · go_simp
              refine hK.out _ _ (HFA.out _ H1D.out) (fun hHeld => ?_)
              clear hK K
              try simp only [Act.put, List.setIfInBounds_toArray, List.set_cons_zero, List.set_cons_succ]
              refine wpAnyH_ready (rs := [1]) (by kernel_rfl) (by simp) ?_
              refine AllReadyH.cons rfl (fun K hK => ?_) AllReadyH.nil
              go_simp
              refine hK.out _ _ (HFA.out _ H1D.out) (fun hHeld => ?_)
              clear hK K
              try simp only [Act.put, List.setIfInBounds_toArray, List.set_cons_zero, List.set_cons_succ]
              refine wpAnyH_ready (rs := [15]) (by kernel_rfl) (by simp) ?_
              refine AllReadyH.cons rfl (fun K hK => ?_) AllReadyH.nil
              refine step_append_rows_if _ (by first | rfl | simp [Region.wanted, yielded, Act.put]) _ _ 22 rfl (Z + 1) 4 _ 1 1 Try.underlying22 info_bool rfl (by decide) v (LV.map bC) (by simp [Act.eval, Act.put]) (by first | exact (HV.out.alloc _).drew | exact HV.out.alloc _) ⟨wo.heap.size, 0, none⟩ 1 1 [bC z] (by decide) rfl (by simp [Act.eval, Act.put]) (by simp [bC]) (one_row _ (bC z) 4 _ (by simp)) (by simp [bC, Value.oneCell']) (by rw [HLV.out]; omega) (by decide) (by simp; omega) ?_
              intro g6 c6 w6 hO6 hg6
              have hk6 := Lib.hid ((hg6.block Z (by simp; omega) (fun e => own_not HV.out e)).trans ((Below.heap_alloc wo (.cells #[.bool z] 4) Z hZo).trans KZ.out))
              have hb6 := Lib.hid (((HV.out.alloc (.cells #[.bool z] 4)).drew).under H1D.out (by rw [HZV.out]; exact Nat.le_succ Z) (by simp; omega) hg6)
              obtain ⟨⟨u0, u1, u2⟩, u3, u4, u5⟩ := three_cells hk6.out
              have hb7 := Lib.hid (hb6.out.setCell (p := ⟨Z, 2, none⟩) (by show v12.heap.size ≤ Z; rw [HZV.out]; exact Nat.le_refl _) (.slice (some ⟨g6, 0, none⟩) (LV.length + 1) c6))
              refine hK.out _ _ (HFA.out _ hb6.out) (fun hHeld => ?_)
              clear hK K
              try simp only [Act.put, List.setIfInBounds_toArray, List.set_cons_zero, List.set_cons_succ]
              refine wpAnyH_take (i := 16) (oi := (⟨some 179, .fieldAddr 24 (.tmp 18) 2, 0, "high.go:138", #[⟨0, .phase⟩, ⟨1, .phase⟩, ⟨2, .phase⟩, ⟨3, .phase⟩, ⟨4, .phase⟩, ⟨5, .phase⟩, ⟨6, .phase⟩, ⟨7, .phase⟩, ⟨8, .phase⟩, ⟨9, .phase⟩, ⟨10, .phase⟩, ⟨11, .phase⟩, ⟨12, .phase⟩, ⟨13, .phase⟩, ⟨14, .phase⟩, ⟨15, .phase⟩], none⟩ : Oper)) (v := ?_) rfl (by kernel_rfl) (by kernel_rfl) (by kernel_rfl) (fun _ _ _ h => h) (Or.inl ⟨by rfl, ?_⟩) (by assumption) ?_
              rotate_left 1
              · (intro w hSw; (try dsimp only at hSw); go_simp; try with_reducible rfl)
              try simp only [Act.put, List.setIfInBounds_toArray, List.set_cons_zero, List.set_cons_succ]
              refine wpAnyH_ready (rs := [17]) (by kernel_rfl) (by simp) ?_
              refine AllReadyH.cons rfl (fun K hK => ?_) AllReadyH.nil
              go_simp
              refine hK.out _ _ (HFA.out _ hb7.out) (fun hHeld => ?_)
              clear hK K
              try simp only [Act.put, List.setIfInBounds_toArray, List.set_cons_zero, List.set_cons_succ]
              refine wpAnyH_done (by kernel_rfl) ?_ _
              go_wp2_with fail
              rw [List.length_map] at hO6
              go_roundg (nJ - (t2 + 1))
              case measure => have := HJ2.out; omega
              case rel =>
                refine ⟨t2 + 1, .slice (some ⟨g6, 0, none⟩) (LV.length + 1) c6, by omega, by go_num, Lib.hid ?_, Lib.hid ?_, hb7⟩
                · have h9 := heap_setCell_same w6 Z 2 _ _ (.slice (some ⟨g6, 0, none⟩) (LV.length + 1) c6) hk6.out
                  rw [h9]
                  rfl
                · rw [HN.out, List.map_append]
                  exact hO6.setCell (a := ⟨Z, 2, none⟩) (Nat.lt_succ_self Z) _
          · rw [Bool.true_or] at HN
            clear c9 b2
            have FA : ∀ W, Below v12.heap.size v12 W → W.cell? ⟨XA, 2, none⟩ = some (.slice (some ⟨b1, o1, none⟩) nJ cap) ∧ W.cell? ⟨b1, o1 + t2, none⟩ = some (.bool true) := fun W hb => by
              have q1 := (SAx.out.below hb).cells.2.2
              have q2 := (hb.cell (p := ⟨b1, o1 + t2, none⟩) hbs1).trans d8
              exact ⟨q1, q2⟩
            have h0 := HW.out
            have h0d := HW.out.drew
            have h1 := HW.out.alloc hsZ (.cells #[.bool true] 4)
            have h1d := h1.drew
            have kz2 : (wo.alloc (.cells #[.bool true] 4)).cell? ⟨Z, 2, none⟩ = some v := cell_blk ((Below.heap_alloc wo (.cells #[.bool true] 4) Z hZo).trans KZ.out) rfl
            have H0 := Lib.hid h0
            have H0D := Lib.hid h0d
            have H1 := Lib.hid h1
            have H1D := Lib.hid h1d
            have HFA := Lib.hid FA
            clear h0 h0d h1 h1d FA
            go_wp2_with fail
            refine wp_region_held_drew (S := (fun W => W.cell? ⟨XA, 2, none⟩ = some (.slice (some ⟨b1, o1, none⟩) nJ cap) ∧ W.cell? ⟨b1, o1 + t2, none⟩ = some (.bool true))) (by kernel_rfl) (HFA.out _ H0D.out) (fun hHeld => ?_)
            refine wpAnyH_take (i := 0) (oi := (⟨some 163, .fieldAddr 24 (.tmp 18) 2, 0, "high.go:138", #[], none⟩ : Oper)) (v := ?_) rfl (by kernel_rfl) (by kernel_rfl) (by kernel_rfl) (fun _ _ _ h => h) (Or.inl ⟨by rfl, ?_⟩) (by assumption) ?_
            rotate_left 1
            · (intro w hSw; (try dsimp only at hSw); go_simp; try with_reducible rfl)
            try simp only [Act.put, List.setIfInBounds_toArray, List.set_cons_zero, List.set_cons_succ]
            refine wpAnyH_take (i := 2) (oi := (⟨some 165, .fieldAddr 24 (.tmp 3) 2, 0, "high.go:138", #[], none⟩ : Oper)) (v := ?_) rfl (by kernel_rfl) (by kernel_rfl) (by kernel_rfl) (fun _ _ _ h => h) (Or.inl ⟨by rfl, ?_⟩) (by assumption) ?_
            rotate_left 1
            · (intro w hSw; (try dsimp only at hSw); go_simp; try with_reducible rfl)
            try simp only [Act.put, List.setIfInBounds_toArray, List.set_cons_zero, List.set_cons_succ]
            refine wpAnyH_take (i := 3) (oi := (⟨some 166, .load 22 (.tmp 165), 22, "high.go:138", #[⟨2, .data⟩], none⟩ : Oper)) (v := ?_) rfl (by kernel_rfl) (by kernel_rfl) (by kernel_rfl) (fun _ _ _ h => h) (Or.inl ⟨by rfl, ?_⟩) (by assumption) ?_
            rotate_left 1
            · (intro w hSw; (try dsimp only at hSw); go_simp; try with_reducible rfl)
            try simp only [Act.put, List.setIfInBounds_toArray, List.set_cons_zero, List.set_cons_succ]
            refine wpAnyH_take (i := 4) (oi := (⟨some 167, .move (.tmp 19), 3, "high.go:138", #[], none⟩ : Oper)) (v := ?_) rfl (by kernel_rfl) (by kernel_rfl) (by kernel_rfl) (fun _ _ _ h => h) (Or.inl ⟨by rfl, ?_⟩) (by assumption) ?_
            rotate_left 1
            · (intro w hSw; (try dsimp only at hSw); go_simp; try with_reducible rfl)
            try simp only [Act.put, List.setIfInBounds_toArray, List.set_cons_zero, List.set_cons_succ]
            refine wpAnyH_take (i := 5) (oi := (⟨some 168, .indexAddr 22 (.tmp 166) (.tmp 167), 0, "high.go:138", #[⟨3, .data⟩, ⟨4, .data⟩], none⟩ : Oper)) (v := ?_) rfl (by kernel_rfl) (by kernel_rfl) (by kernel_rfl) (fun _ _ _ h => h) (Or.inl ⟨by rfl, ?_⟩) (by assumption) ?_
            rotate_left 1
            · (intro w hSw; (try dsimp only at hSw); go_simp; try with_reducible rfl)
            try simp only [Act.put, List.setIfInBounds_toArray, List.set_cons_zero, List.set_cons_succ]
            refine wpAnyH_take (i := 6) (oi := (⟨some 169, .load 4 (.tmp 168), 4, "high.go:138", #[⟨5, .data⟩], none⟩ : Oper)) (v := ?_) rfl (by kernel_rfl) (by kernel_rfl) (by kernel_rfl) (fun _ _ _ h => h) (Or.inl ⟨by rfl, ?_⟩) (by assumption) ?_
            rotate_left 1
            · (intro w hSw; (try dsimp only at hSw); go_simp; try with_reducible rfl)
            try simp only [Act.put, List.setIfInBounds_toArray, List.set_cons_zero, List.set_cons_succ]
            refine wpAnyH_take (i := 7) (oi := (⟨some 170, .move (.tmp 169), 4, "high.go:138", #[⟨6, .data⟩], none⟩ : Oper)) (v := ?_) rfl (by kernel_rfl) (by kernel_rfl) (by kernel_rfl) (fun _ _ _ h => h) (Or.inl ⟨by rfl, ?_⟩) (by assumption) ?_
            rotate_left 1
            · (intro w hSw; (try dsimp only at hSw); go_simp; try with_reducible rfl)
            try simp only [Act.put, List.setIfInBounds_toArray, List.set_cons_zero, List.set_cons_succ]
            refine wpAnyH_take (i := 8) (oi := (⟨some 171, .fieldAddr 24 (.tmp 4) 2, 0, "high.go:138", #[⟨7, .guard⟩], some (7, false)⟩ : Oper)) (v := undef) rfl (by kernel_rfl) (by kernel_rfl) (by kernel_rfl) (fun _ _ _ h => h) (Or.inr ⟨by rfl, rfl⟩) (by assumption) ?_
            try simp only [Act.put, List.setIfInBounds_toArray, List.set_cons_zero, List.set_cons_succ]
            refine wpAnyH_take (i := 9) (oi := (⟨some 172, .load 22 (.tmp 171), 22, "high.go:138", #[⟨8, .data⟩, ⟨7, .guard⟩], some (7, false)⟩ : Oper)) (v := undef) rfl (by kernel_rfl) (by kernel_rfl) (by kernel_rfl) (fun _ _ _ h => h) (Or.inr ⟨by rfl, rfl⟩) (by assumption) ?_
            try simp only [Act.put, List.setIfInBounds_toArray, List.set_cons_zero, List.set_cons_succ]
            refine wpAnyH_take (i := 10) (oi := (⟨some 173, .move (.tmp 19), 3, "high.go:138", #[⟨7, .guard⟩], some (7, false)⟩ : Oper)) (v := undef) rfl (by kernel_rfl) (by kernel_rfl) (by kernel_rfl) (fun _ _ _ h => h) (Or.inr ⟨by rfl, rfl⟩) (by assumption) ?_
            try simp only [Act.put, List.setIfInBounds_toArray, List.set_cons_zero, List.set_cons_succ]
            refine wpAnyH_take (i := 11) (oi := (⟨some 174, .indexAddr 22 (.tmp 172) (.tmp 173), 0, "high.go:138", #[⟨9, .data⟩, ⟨10, .data⟩, ⟨7, .guard⟩], some (7, false)⟩ : Oper)) (v := undef) rfl (by kernel_rfl) (by kernel_rfl) (by kernel_rfl) (fun _ _ _ h => h) (Or.inr ⟨by rfl, rfl⟩) (by assumption) ?_
            try simp only [Act.put, List.setIfInBounds_toArray, List.set_cons_zero, List.set_cons_succ]
            refine wpAnyH_take (i := 12) (oi := (⟨some 175, .load 4 (.tmp 174), 4, "high.go:138", #[⟨11, .data⟩, ⟨7, .guard⟩], some (7, false)⟩ : Oper)) (v := undef) rfl (by kernel_rfl) (by kernel_rfl) (by kernel_rfl) (fun _ _ _ h => h) (Or.inr ⟨by rfl, rfl⟩) (by assumption) ?_
            try simp only [Act.put, List.setIfInBounds_toArray, List.set_cons_zero, List.set_cons_succ]
            refine wpAnyH_take (i := 13) (oi := (⟨some 176, .pick (.tmp 170) (.const (.bool true)) (.tmp 175), 4, "high.go:138", #[⟨7, .data⟩, ⟨12, .data⟩], none⟩ : Oper)) (v := ?_) rfl (by kernel_rfl) (by kernel_rfl) (by kernel_rfl) (fun _ _ _ h => h) (Or.inl ⟨by rfl, ?_⟩) (by assumption) ?_
            rotate_left 1
            · (intro w hSw; (try dsimp only at hSw); go_simp; try with_reducible rfl)
            try simp only [Act.put, List.setIfInBounds_toArray, List.set_cons_zero, List.set_cons_succ]
            refine wpAnyH_ready (rs := [1, 14]) (by kernel_rfl) (by simp) ?_
            refine AllReadyH.cons rfl (fun K hK => ?_) (AllReadyH.cons rfl (fun K hK => ?_) AllReadyH.nil)
            · go_simp
              refine hK.out _ _ (HFA.out _ H0D.out) (fun hHeld => ?_)
              clear hK K
              try simp only [Act.put, List.setIfInBounds_toArray, List.set_cons_zero, List.set_cons_succ]
              refine wpAnyH_ready (rs := [14]) (by kernel_rfl) (by simp) ?_
              refine AllReadyH.cons rfl (fun K hK => ?_) AllReadyH.nil
              go_simp
              refine hK.out _ _ (HFA.out _ H1D.out) (fun hHeld => ?_)
              clear hK K
              try simp only [Act.put, List.setIfInBounds_toArray, List.set_cons_zero, List.set_cons_succ]
              refine wpAnyH_ready (rs := [15]) (by kernel_rfl) (by simp) ?_
              refine AllReadyH.cons rfl (fun K hK => ?_) AllReadyH.nil
              refine step_append_rows_if _ (by first | rfl | simp [Region.wanted, yielded, Act.put]) _ _ 22 rfl (Z + 1) 4 _ 1 1 Try.underlying22 info_bool rfl (by decide) v (LV.map bC) (by simp [Act.eval, Act.put]) (by first | exact (HV.out.alloc _).drew | exact HV.out.alloc _) ⟨wo.heap.size, 0, none⟩ 1 1 [bC true] (by decide) rfl (by simp [Act.eval, Act.put]) (by simp [bC]) (one_row _ (bC true) 4 _ (by simp)) (by simp [bC, Value.oneCell']) (by rw [HLV.out]; omega) (by decide) (by simp; omega) ?_
              intro g6 c6 w6 hO6 hg6
              have hk6 := Lib.hid ((hg6.block Z (by simp; omega) (fun e => own_not HV.out e)).trans ((Below.heap_alloc wo (.cells #[.bool true] 4) Z hZo).trans KZ.out))
              have hb6 := Lib.hid (((HV.out.alloc (.cells #[.bool true] 4)).drew).under H1D.out (by rw [HZV.out]; exact Nat.le_succ Z) (by simp; omega) hg6)
              obtain ⟨⟨u0, u1, u2⟩, u3, u4, u5⟩ := three_cells hk6.out
              have hb7 := Lib.hid (hb6.out.setCell (p := ⟨Z, 2, none⟩) (by show v12.heap.size ≤ Z; rw [HZV.out]; exact Nat.le_refl _) (.slice (some ⟨g6, 0, none⟩) (LV.length + 1) c6))
              refine hK.out _ _ (HFA.out _ hb6.out) (fun hHeld => ?_)
              clear hK K
              try simp only [Act.put, List.setIfInBounds_toArray, List.set_cons_zero, List.set_cons_succ]
              refine wpAnyH_take (i := 16) (oi := (⟨some 179, .fieldAddr 24 (.tmp 18) 2, 0, "high.go:138", #[⟨0, .phase⟩, ⟨1, .phase⟩, ⟨2, .phase⟩, ⟨3, .phase⟩, ⟨4, .phase⟩, ⟨5, .phase⟩, ⟨6, .phase⟩, ⟨7, .phase⟩, ⟨8, .phase⟩, ⟨9, .phase⟩, ⟨10, .phase⟩, ⟨11, .phase⟩, ⟨12, .phase⟩, ⟨13, .phase⟩, ⟨14, .phase⟩, ⟨15, .phase⟩], none⟩ : Oper)) (v := ?_) rfl (by kernel_rfl) (by kernel_rfl) (by kernel_rfl) (fun _ _ _ h => h) (Or.inl ⟨by rfl, ?_⟩) (by assumption) ?_
              rotate_left 1
              · (intro w hSw; (try dsimp only at hSw); go_simp; try with_reducible rfl)
              try simp only [Act.put, List.setIfInBounds_toArray, List.set_cons_zero, List.set_cons_succ]
              refine wpAnyH_ready (rs := [17]) (by kernel_rfl) (by simp) ?_
              refine AllReadyH.cons rfl (fun K hK => ?_) AllReadyH.nil
              go_simp
              refine hK.out _ _ (HFA.out _ hb7.out) (fun hHeld => ?_)
              clear hK K
              try simp only [Act.put, List.setIfInBounds_toArray, List.set_cons_zero, List.set_cons_succ]
              refine wpAnyH_done (by kernel_rfl) ?_ _
              go_wp2_with fail
              rw [List.length_map] at hO6
              go_roundg (nJ - (t2 + 1))
              case measure => have := HJ2.out; omega
              case rel =>
                refine ⟨t2 + 1, .slice (some ⟨g6, 0, none⟩) (LV.length + 1) c6, by omega, by go_num, Lib.hid ?_, Lib.hid ?_, hb7⟩
                · have h9 := heap_setCell_same w6 Z 2 _ _ (.slice (some ⟨g6, 0, none⟩) (LV.length + 1) c6) hk6.out
                  rw [h9]
                  rfl
                · rw [HN.out, List.map_append]
                  exact hO6.setCell (a := ⟨Z, 2, none⟩) (Nat.lt_succ_self Z) _
            · go_simp
              refine hK.out _ _ (HFA.out _ H1D.out) (fun hHeld => ?_)
              clear hK K
              try simp only [Act.put, List.setIfInBounds_toArray, List.set_cons_zero, List.set_cons_succ]
              refine wpAnyH_ready (rs := [1]) (by kernel_rfl) (by simp) ?_
              refine AllReadyH.cons rfl (fun K hK => ?_) AllReadyH.nil
              go_simp
              refine hK.out _ _ (HFA.out _ H1D.out) (fun hHeld => ?_)
              clear hK K
              try simp only [Act.put, List.setIfInBounds_toArray, List.set_cons_zero, List.set_cons_succ]
              refine wpAnyH_ready (rs := [15]) (by kernel_rfl) (by simp) ?_
              refine AllReadyH.cons rfl (fun K hK => ?_) AllReadyH.nil
              refine step_append_rows_if _ (by first | rfl | simp [Region.wanted, yielded, Act.put]) _ _ 22 rfl (Z + 1) 4 _ 1 1 Try.underlying22 info_bool rfl (by decide) v (LV.map bC) (by simp [Act.eval, Act.put]) (by first | exact (HV.out.alloc _).drew | exact HV.out.alloc _) ⟨wo.heap.size, 0, none⟩ 1 1 [bC true] (by decide) rfl (by simp [Act.eval, Act.put]) (by simp [bC]) (one_row _ (bC true) 4 _ (by simp)) (by simp [bC, Value.oneCell']) (by rw [HLV.out]; omega) (by decide) (by simp; omega) ?_
              intro g6 c6 w6 hO6 hg6
              have hk6 := Lib.hid ((hg6.block Z (by simp; omega) (fun e => own_not HV.out e)).trans ((Below.heap_alloc wo (.cells #[.bool true] 4) Z hZo).trans KZ.out))
              have hb6 := Lib.hid (((HV.out.alloc (.cells #[.bool true] 4)).drew).under H1D.out (by rw [HZV.out]; exact Nat.le_succ Z) (by simp; omega) hg6)
              obtain ⟨⟨u0, u1, u2⟩, u3, u4, u5⟩ := three_cells hk6.out
              have hb7 := Lib.hid (hb6.out.setCell (p := ⟨Z, 2, none⟩) (by show v12.heap.size ≤ Z; rw [HZV.out]; exact Nat.le_refl _) (.slice (some ⟨g6, 0, none⟩) (LV.length + 1) c6))
              refine hK.out _ _ (HFA.out _ hb6.out) (fun hHeld => ?_)
              clear hK K
              try simp only [Act.put, List.setIfInBounds_toArray, List.set_cons_zero, List.set_cons_succ]
              refine wpAnyH_take (i := 16) (oi := (⟨some 179, .fieldAddr 24 (.tmp 18) 2, 0, "high.go:138", #[⟨0, .phase⟩, ⟨1, .phase⟩, ⟨2, .phase⟩, ⟨3, .phase⟩, ⟨4, .phase⟩, ⟨5, .phase⟩, ⟨6, .phase⟩, ⟨7, .phase⟩, ⟨8, .phase⟩, ⟨9, .phase⟩, ⟨10, .phase⟩, ⟨11, .phase⟩, ⟨12, .phase⟩, ⟨13, .phase⟩, ⟨14, .phase⟩, ⟨15, .phase⟩], none⟩ : Oper)) (v := ?_) rfl (by kernel_rfl) (by kernel_rfl) (by kernel_rfl) (fun _ _ _ h => h) (Or.inl ⟨by rfl, ?_⟩) (by assumption) ?_
              rotate_left 1
              · (intro w hSw; (try dsimp only at hSw); go_simp; try with_reducible rfl)
              try simp only [Act.put, List.setIfInBounds_toArray, List.set_cons_zero, List.set_cons_succ]
              refine wpAnyH_ready (rs := [17]) (by kernel_rfl) (by simp) ?_
              refine AllReadyH.cons rfl (fun K hK => ?_) AllReadyH.nil
              go_simp
              refine hK.out _ _ (HFA.out _ hb7.out) (fun hHeld => ?_)
              clear hK K
              try simp only [Act.put, List.setIfInBounds_toArray, List.set_cons_zero, List.set_cons_succ]
              refine wpAnyH_done (by kernel_rfl) ?_ _
              go_wp2_with fail
              rw [List.length_map] at hO6
              go_roundg (nJ - (t2 + 1))
              case measure => have := HJ2.out; omega
              case rel =>
                refine ⟨t2 + 1, .slice (some ⟨g6, 0, none⟩) (LV.length + 1) c6, by omega, by go_num, Lib.hid ?_, Lib.hid ?_, hb7⟩
                · have h9 := heap_setCell_same w6 Z 2 _ _ (.slice (some ⟨g6, 0, none⟩) (LV.length + 1) c6) hk6.out
                  rw [h9]
                  rfl
                · rw [HN.out, List.map_append]
                  exact hO6.setCell (a := ⟨Z, 2, none⟩) (Nat.lt_succ_self Z) _
        · obtain rfl : t2 = nJ := by omega
          rw [List.take_of_length_le (by rw [orB_len (by rw [HLL.out.1, HLL.out.2]), HLL.out.1]; exact Nat.le_refl _)] at HV
          have SJz := Lib.hid (SJx.out.below HW.out)
          have hlo : ((orB B C).map bC).length = t2 := by rw [List.length_map, orB_len (by rw [HLL.out.1, HLL.out.2])]; exact HLL.out.1
          obtain ⟨av, cv, rfl, hTv⟩ := HV.out.tab
          rw [hlo] at hTv KZ
          rw [HBJ.out] at SJz
          have D3 := Lib.hid (sameF_any t2 t t2 t aJ av t2 cJ t2 cv (orB B C) (orB B C) wo SJz.out.2 hTv true (by simp))
          obtain ⟨p0, p1, p2⟩ := SJz.out.cells
          obtain ⟨⟨y0, y1, y2⟩, _⟩ := three_cells KZ.out
          have HBz := Lib.hid (below_on HBx.out HW.out)
          clear hlo hTv HV SJz KZ HBx HW SAz SBz SAx SBx SJx
          go_wp2_with fail
          refine D3.out.mono ?_
          rintro e v14 ⟨rfl, hb⟩
          replace HBz := Lib.hid (below_on HBz.out hb)
          clear hb
          go_wp2
          go_ret
          exact ⟨rfl, HBz.out⟩

set_option maxRecDepth 100000 in
theorem lifted (os : Os) (started : os.Started) (H : Type) (enc : TypeId × Value → H) :
    ReturnsInHanded {} Try.checked os 3 .any (Rows.bloomSaysSpec.pre6 enc Try.prog Try.f3 Rows.bloomSaysRow.domain false) (Rows.bloomSaysSpec.post enc Try.prog Try.f3 false true false false) := by
  refine returnsInHanded_of_change_sized (C := Try.checked) own started (by kernel_rfl) Try.func3
    (ChangeSpec.witness6 (enc := enc) (C := Try.checked) false ⟨#[], #[.agg #[.int .i64 0, .int .i64 0, .slice none 0 0], .agg #[.int .i64 0, .int .i64 0, .slice none 0 0], .int .i64 0], []⟩ 8 (by kernel_rfl) (by kernel_rfl) (by kernel_rfl) (by kernel_rfl)) ?_
  intro W base args ds gs before hval0 hW hcnd hsz0 _
  have hval : ∀ (j : Nat) t v, Try.f3.params[j]? = some t → args[j]? = some v → Value.okWide Try.prog W .any base t v := hval0
  have hW' := hW
  obtain ⟨p, q, hA0, hV, rfl, hfz, hnd⟩ := hW
  have hA : DataW.TrodAll enc Try.prog W 0 (fun _ => true) true Try.f3.params.toList args.toList ds p := hA0
  have hsz : (DataW.weightsEach Try.prog (Try.f3.params.toList ++ Rows.bloomSaysSpec.plain.varTypes Try.prog) (ds ++ gs)).all (· ≤ reachBytes) = true := hsz0
  rw [Try.params3] at hA hval hsz
  obtain ⟨v0, vs0, d0, ds0, p0, q0, hargs, rfl, rfl, h0, r0⟩ := trodAll_cons hA
  obtain ⟨v1, vs1, d1, ds1, p1, q1, rfl, rfl, rfl, h1, r1⟩ := trodAll_cons r0
  obtain ⟨v2, vs2, d2, ds2, p2, q2, rfl, rfl, rfl, h2, r2⟩ := trodAll_cons r1
  obtain ⟨rfl, rfl, rfl⟩ := trodAll_nil r2
  obtain rfl : args = #[v0, v1, v2] := by cases args; simp_all
  obtain ⟨rfl, rfl⟩ := trodVars_none hV
  have k0 := h0
  have L0 := light_of hsz (j := 0) (t := 24) (d := d0) rfl rfl
  have lt0 : ∀ x ∈ p0, x.block < W.heap.size := by obtain ⟨m, hm⟩ := k0; exact DataW.trod_lt m _ _ _ hm
  obtain ⟨cs0, rfl, hsz0⟩ := okWide_struct Try.underlying24 (hval 0 24 v0 rfl rfl)
  obtain ⟨n0, f0⟩ := trod_agg_of h0
  obtain ⟨c0_0, c0_1, c0_2, _, _, _, _, _, _, hcs0, g0_0, g0_1, g0_2⟩ := struct3 Try.underlying24 (by kernel_rfl) (by kernel_rfl) f0 L0
  obtain ⟨x0_0, e0_0, _, w0_0⟩ := DataW.trod_int Try.underlying3 g0_0.1
  obtain ⟨x0_1, e0_1, _, w0_1⟩ := DataW.trod_int Try.underlying3 g0_1.1
  obtain ⟨x0_2, e0_2, t0_2, b0_2, o0_2⟩ := el_slice (w := W) (k := 1) bC (fun _ => True) (by decide) Try.underlying22 (by kernel_rfl) (el_bool Try.underlying4) (B := 1) (by kernel_rfl) _ _ _ g0_2.1 g0_2.2
  simp only [slC, List.cons.injEq, and_true] at e0_0 e0_1 e0_2
  subst e0_0 e0_1 e0_2
  obtain rfl : cs0 = #[.int .i64 x0_0, .int .i64 x0_1, .slice x0_2.a x0_2.len x0_2.cap] := Array.toList_inj.1 hcs0
  have k1 := h1
  have L1 := light_of hsz (j := 1) (t := 24) (d := d1) rfl rfl
  have lt1 : ∀ x ∈ p1, x.block < W.heap.size := by obtain ⟨m, hm⟩ := k1; exact DataW.trod_lt m _ _ _ hm
  obtain ⟨cs1, rfl, hsz1⟩ := okWide_struct Try.underlying24 (hval 1 24 v1 rfl rfl)
  obtain ⟨n1, f1⟩ := trod_agg_of h1
  obtain ⟨c1_0, c1_1, c1_2, _, _, _, _, _, _, hcs1, g1_0, g1_1, g1_2⟩ := struct3 Try.underlying24 (by kernel_rfl) (by kernel_rfl) f1 L1
  obtain ⟨x1_0, e1_0, _, w1_0⟩ := DataW.trod_int Try.underlying3 g1_0.1
  obtain ⟨x1_1, e1_1, _, w1_1⟩ := DataW.trod_int Try.underlying3 g1_1.1
  obtain ⟨x1_2, e1_2, t1_2, b1_2, o1_2⟩ := el_slice (w := W) (k := 1) bC (fun _ => True) (by decide) Try.underlying22 (by kernel_rfl) (el_bool Try.underlying4) (B := 1) (by kernel_rfl) _ _ _ g1_2.1 g1_2.2
  simp only [slC, List.cons.injEq, and_true] at e1_0 e1_1 e1_2
  subst e1_0 e1_1 e1_2
  obtain rfl : cs1 = #[.int .i64 x1_0, .int .i64 x1_1, .slice x1_2.a x1_2.len x1_2.cap] := Array.toList_inj.1 hcs1
  have k2 := h2
  have L2 := light_of hsz (j := 2) (t := 3) (d := d2) rfl rfl
  have lt2 : ∀ x ∈ p2, x.block < W.heap.size := by obtain ⟨m, hm⟩ := k2; exact DataW.trod_lt m _ _ _ hm
  obtain ⟨x2, rfl, rfl, rfl, w2⟩ := open_int Try.underlying3 (hval 2 3 v2 rfl rfl) h2
  clear hA0 hval0
  refine (walk x0_0 x0_1 x0_2 x1_0 x1_1 x1_2 x2 W w0_0 w0_1 t0_2 b0_2 o0_2 w1_0 w1_1 t1_2 b1_2 o1_2 w2).mono fun e W' ⟨he, hg⟩ => ?_
  subst he
  exact ⟨_, rfl, _, _, _, [], _, [], hW', trodAll_mk1 (shut_bool Try.underlying4 _), (trodAll_cons_mk (Below.trod laidOut (by kernel_rfl) (of_decide_eq_true (by kernel_rfl)) k0 hg lt0) (trodAll_cons_mk (Below.trod laidOut (by kernel_rfl) (of_decide_eq_true (by kernel_rfl)) k1 hg lt1) (trodAll_cons_mk (Below.trod laidOut (by kernel_rfl) (of_decide_eq_true (by kernel_rfl)) k2 hg lt2) trodAll_mk0))), rfl, hg.frame _, fun h => by cases h⟩

theorem over : Rows.bloomSaysRow.holds Try.pinned (OpenSpec.ofChange Rows.bloomSaysSpec) :=
  OpenClaim.holds_of_wide 3 Try.f3 rfl rfl rfl rfl rfl rfl rfl ⟨rfl, rfl, rfl, rfl, rfl⟩ rfl rfl rfl rfl rfl (by kernel_rfl) Try.func3 (by kernel_rfl)
    (of_decide_eq_true (by kernel_rfl)) (by unfold Func.isWrapper; first | (rw [if_pos (by decide +kernel)]; kernel_rfl) | (rw [if_neg (by decide +kernel)]; exact ⟨rfl, rfl⟩))
    (fun os started H enc _ => lifted os started H enc)

/-- ████ THE STATEMENT ████ -/
theorem proved : Rows.BloomSaysSaid :=
  over
#print axioms proved
end Go.Proofs.Ytcfejbhoeichnaa.bloomSays
