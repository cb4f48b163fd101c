/-
  'Rows.BloomGrowsSaid' is proved: what is put or joined to a filter takes no key away. No condition.
-/
import Derived.Test.YtoijeafhohcbdaaRows
import Derived.Test.YtoijeafhohcbdaaShapes
import Derived.Test.YtoijeafhohcbdaaBloomAll
import Derived.Test.YtoijeafhohcbdaaLit
import Derived.Deep.DeepCutAuto
import Derived.WalkKit
import Derived.ProofKit
import Derived.OpenShut
import Derived.ShutString
import Derived.ChangeOld
import Derived.Below
namespace Go.Proofs.Ytoijeafhohcbdaa.bloomGrows
open Go.ChangeShapes Go.WideShapes Go.ChangeAt Go.RowKit
open Go.ChangeMaps (open_string shut_string)
set_option linter.unusedVariables false

theorem own : ownKnob Try.prog.godebug = none := by kernel_rfl
theorem laidOut : laidOutB Try.prog = true := by kernel_rfl

open Bloom
theorem lit_has : hasB [true] (places 5 1 2) = true := by
  rw [hasB_true]
  intro p hp
  have := places_lt (by decide) p hp
  obtain rfl : p = 0 := by omega
  rfl
theorem put_more {B : List Bool} {ps qs : List Nat} (h : hasB B ps = true) : hasB (putB B qs) ps = true := hasB_on (fun p hp => put_on p hp) h
theorem bools_one (l : List Bool) : ∀ r ∈ l.map bC, r.length = 1 := rows_of bC_len l

set_option maxRecDepth 100000 in
set_option maxHeartbeats 2000000 in
theorem walk (x0_0 : Int) (x0_1 : Int) (x0_2 : Sl Bool) (x1_0 : Int) (x1_1 : Int) (x1_2 : Sl Bool) (x2 : Int) (x3 : Int) (w : World) (w0_0 : (Lit.int .i64 x0_0).wf = true) (w0_1 : (Lit.int .i64 x0_1).wf = true) (t0_2 : Tab w x0_2.a x0_2.len x0_2.cap 1 (x0_2.l.map bC)) (b0_2 : x0_2.len * 1 ≤ 140737488351232) (o0_2 : ∀ z ∈ x0_2.l, (fun _ => True) z) (w1_0 : (Lit.int .i64 x1_0).wf = true) (w1_1 : (Lit.int .i64 x1_1).wf = true) (t1_2 : Tab w x1_2.a x1_2.len x1_2.cap 1 (x1_2.l.map bC)) (b1_2 : x1_2.len * 1 ≤ 140737488351232) (o1_2 : ∀ z ∈ x1_2.l, (fun _ => True) z) (w2 : (Lit.int .i64 x2).wf = true) (w3 : (Lit.int .i64 x3).wf = true) :
    Calls Try.prog 10 #[.agg #[.int .i64 x0_0, .int .i64 x0_1, .slice x0_2.a x0_2.len x0_2.cap], .agg #[.int .i64 x1_0, .int .i64 x1_1, .slice x1_2.a x1_2.len x1_2.cap], .int .i64 x2, .int .i64 x3] w fun e w' => e = .returned (.bool true) ∧ Below w.heap.size w w' := by
  obtain ⟨a, len, cap, B⟩ := x0_2
  obtain ⟨b, len2, cap2, C⟩ := x1_2
  have hT1 : Tab w a len cap 1 (B.map bC) := t0_2
  have hT2 : Tab w b len2 cap2 1 (C.map bC) := t1_2
  clear t0_2 t1_2 o0_2 o1_2 b0_2 b1_2
  generalize x0_0 = S at *
  generalize x0_1 = K at *
  generalize x1_0 = S2 at *
  generalize x1_1 = K2 at *
  generalize x2 = x at *
  generalize x3 = y at *
  have hl1 : B.length = len := by have h := hT1.hlen; rw [List.length_map] at h; exact h
  have hl2 : C.length = len2 := by have h := hT2.hlen; rw [List.length_map] at h; exact h
  have HLL := Lib.hid (And.intro hl1 hl2)
  have hbx : Below w.heap.size w ((w.alloc (.cells #[.int .i64 S, .int .i64 K, .slice a len cap] 33)).alloc (.cells #[.int .i64 S2, .int .i64 K2, .slice b len2 cap2] 33)) := ((Below.refl _ _).alloc (Nat.le_refl _) _).alloc (by simp) _
  have SA0 : SF ((w.alloc (.cells #[.int .i64 S, .int .i64 K, .slice a len cap] 33)).alloc (.cells #[.int .i64 S2, .int .i64 K2, .slice b len2 cap2] 33)) w.heap.size S K a len cap B := ⟨by rw [Below.heap_alloc _ _ _ (by simp)]; exact (MapKept.heap_alloc w _).1, hT1.below hbx⟩
  have SB0 : SF ((w.alloc (.cells #[.int .i64 S, .int .i64 K, .slice a len cap] 33)).alloc (.cells #[.int .i64 S2, .int .i64 K2, .slice b len2 cap2] 33)) (w.heap.size + 1) S2 K2 b len2 cap2 C := ⟨by
    have := (MapKept.heap_alloc (w.alloc (.cells #[.int .i64 S, .int .i64 K, .slice a len cap] 33)) (.cells #[.int .i64 S2, .int .i64 K2, .slice b len2 cap2] 33)).1
    simpa using this, hT2.below hbx⟩
  obtain ⟨v0, hv0⟩ : ∃ v, (w.alloc (.cells #[.int .i64 S, .int .i64 K, .slice a len cap] 33)).alloc (.cells #[.int .i64 S2, .int .i64 K2, .slice b len2 cap2] 33) = v := ⟨_, rfl⟩
  rw [hv0] at hbx SA0 SB0
  have SA := Lib.hid SA0
  have SB := Lib.hid SB0
  have HB0 := Lib.hid hbx
  have HV0 := Lib.hid hv0
  have CL := fhas_ok 1 2 (some ⟨v0.heap.size, 0, none⟩) 1 1 [true] 5 _ (tab_lit v0 4 1 1 ([true].map bC) #[.bool true] rfl rfl (bools_one _) (by decide) _ rfl) (by decide)
  rw [lit_has] at CL
  unfold filterV at CL
  replace CL := Lib.hid CL
  have hbl : Below v0.heap.size v0 (v0.alloc (.cells #[.bool true] 4)) := (Below.refl _ _).alloc (Nat.le_refl _) _
  have HBL := Lib.hid hbl
  obtain ⟨SP, KP, BP, CP1, CP⟩ := fput_all S K a len cap B x
  obtain ⟨h1, CA1, CA⟩ := fhas_all S K a len cap B y
  obtain ⟨SJ, KJ, BJ, CJ1, CJ⟩ := fjoin_all S K S2 K2 a b len cap len2 cap2 B C
  obtain ⟨h3, CC1, CC⟩ := fhas_all S2 K2 b len2 cap2 C y
  obtain ⟨E, hE⟩ : ∃ E, filterE S K len = E := ⟨_, rfl⟩
  have HE := Lib.hid hE
  rw [hE] at CP CP1 CA CA1
  obtain ⟨J, hJ⟩ : ∃ J, joinFE S K len S2 K2 len2 = J := ⟨_, rfl⟩
  have HJ := Lib.hid hJ
  rw [hJ] at CJ CJ1
  clear hT1 hT2 hl1 hl2 hbx SA0 SB0 hv0 hbl hE hJ
  go_enter Try.func10, Try.ntmps10
  go_upto_region 1 with fail
  rw [HV0.out]
  obtain ⟨XA, hXA⟩ : ∃ X, w.heap.size = X := ⟨_, rfl⟩
  have HXA := Lib.hid hXA
  rw [hXA] at SA SB ⊢
  clear HV0 hXA
  go_wp2_with fail
  refine CL.out.mono ?_
  rintro e v1 ⟨rfl, hb⟩
  have hb1 := below_on HBL.out hb
  have HB1 := Lib.hid (below_on HB0.out hb1)
  replace SA := Lib.hid (SA.out.below hb1)
  replace SB := Lib.hid (SB.out.below hb1)
  clear hb hb1 HB0 HBL CL
  obtain ⟨a0, a1, a2⟩ := SA.out.cells
  go_wp2_with fail
  clear a0 a1 a2
  refine (CP.out _ SA.out.2).mono ?_
  rintro e v2 ⟨qv, rfl, hO, hb⟩
  obtain ⟨aP, cP, rfl, _⟩ := hO.tab
  rw [List.length_map] at hO ⊢
  obtain ⟨nP, hnP⟩ : ∃ u, BP.length = u := ⟨_, rfl⟩
  rw [hnP] at hO ⊢
  have HNP := Lib.hid hnP
  have hz := SF.new (S := SP) (K := KP) hO
  have HBn := below_on (below_on HB1.out hb) hz.2
  replace SA := Lib.hid ((SA.out.below hb).below hz.2)
  replace SB := Lib.hid ((SB.out.below hb).below hz.2)
  obtain ⟨v3, hv⟩ : ∃ v, v2.alloc (.cells #[.int .i64 SP, .int .i64 KP, .slice aP nP cP] 33) = v := ⟨_, rfl⟩
  rw [hv] at hz HBn SA SB
  obtain ⟨XP, hX⟩ : ∃ X, v2.heap.size = X := ⟨_, rfl⟩
  rw [hX] at hz
  have SFP := Lib.hid hz.1
  have HB3 := Lib.hid HBn
  have HVX := Lib.hid (And.intro hv hX)
  clear hz HBn hb hO hnP hv hX CP HB1
  go_upto_region 5 with fail
  rw [HVX.out.1, HVX.out.2]
  clear HVX
  by_cases hE : E ≠ 0
  · have t : (E != 0) = true := by simpa using hE
    obtain rfl : nP = 0 := by
      rcases CP1.out with ⟨_, _, _, h⟩ | ⟨h, _⟩
      · rw [← HNP.out, h]; rfl
      · exact absurd h hE
    obtain ⟨p0, p1, p2⟩ := SFP.out.cells
    clear CP1 CA1 CJ1 CC1 hE HE HJ
    go_wp2_with fail
    go_ret
    exact ⟨rfl, HB3.out⟩
  obtain rfl : E = 0 := by omega
  clear hE
  obtain ⟨rfl, rfl, hBP⟩ : SP = S ∧ KP = K ∧ BP = putB B (places x S.toNat K.toNat) := by
    rcases CP1.out with ⟨h, _⟩ | ⟨_, h1, h2, h3⟩
    · exact absurd rfl h
    · exact ⟨h1, h2, h3⟩
  have hnl : nP = len := by rw [← HNP.out, hBP, putB_len]; exact HLL.out.1
  obtain ⟨h2, CB1, CB⟩ := fhas_all SP KP aP nP cP BP y
  have hE2 : filterE SP KP nP = 0 := by rw [hnl]; exact HE.out
  rw [hE2] at CB CB1
  have H12 : Hid (h1 = true → h2 = true) := Lib.hid (by
    rcases CA1.out with ⟨h, _⟩ | ⟨_, e1⟩
    · exact absurd rfl h
    rcases CB1.out with ⟨h, _⟩ | ⟨_, e2⟩
    · exact absurd rfl h
    intro h
    rw [e2, hBP]
    exact put_more (e1.symm.trans h))
  clear hBP hnl hE2 CB1 CP1
  obtain ⟨a0, a1, a2⟩ := SA.out.cells
  go_wp2_with fail
  clear a0 a1 a2
  refine (CA.out _ SA.out.2).mono ?_
  rintro e v4 ⟨rfl, hb4⟩
  replace SA := Lib.hid (SA.out.below hb4)
  replace SB := Lib.hid (SB.out.below hb4)
  replace SFP := Lib.hid (SFP.out.below hb4)
  replace HB3 := Lib.hid (below_on HB3.out hb4)
  clear hb4 CA
  obtain ⟨a0, a1, a2⟩ := SFP.out.cells
  go_wp2_with fail
  clear a0 a1 a2
  refine (CB.out _ SFP.out.2).mono ?_
  rintro e v5 ⟨rfl, hb5⟩
  replace SA := Lib.hid (SA.out.below hb5)
  replace SB := Lib.hid (SB.out.below hb5)
  replace HB3 := Lib.hid (below_on HB3.out hb5)
  clear hb5 CB SFP
  go_upto_region 9 with fail
  go_cut [68] (fun s wx => s = .bool false ∧ wx = v5)
  case first =>
    have H12' := H12.out
    cases h1
    · clear H12'
      go_wp2_with fail
      go_meet
      case rel => exact ⟨rfl, rfl⟩
    · have h2t := H12' rfl
      subst h2t
      clear H12'
      go_wp2_with fail
      go_meet
      case rel => exact ⟨rfl, rfl⟩
  case rest =>
  obtain ⟨rfl, hwc⟩ := hcut
  rw [hwc]
  clear hwc H12
  obtain ⟨a0, a1, a2⟩ := SA.out.cells
  obtain ⟨b0, b1, b2⟩ := SB.out.cells
  go_wp2_with fail
  clear a0 a1 a2 b0 b1 b2
  refine (CJ.out _ SA.out.2 SB.out.2).mono ?_
  rintro e v6 ⟨qv, rfl, hO, hb⟩
  obtain ⟨aJ, cJ, rfl, _⟩ := hO.tab
  rw [List.length_map] at hO ⊢
  obtain ⟨nJ, hnJ⟩ : ∃ u, BJ.length = u := ⟨_, rfl⟩
  rw [hnJ] at hO ⊢
  have HNJ := Lib.hid hnJ
  have hz := SF.new (S := SJ) (K := KJ) hO
  have HBn := below_on (below_on HB3.out hb) hz.2
  replace SB := Lib.hid ((SB.out.below hb).below hz.2)
  obtain ⟨v7, hv⟩ : ∃ v, v6.alloc (.cells #[.int .i64 SJ, .int .i64 KJ, .slice aJ nJ cJ] 33) = v := ⟨_, rfl⟩
  rw [hv] at hz HBn SB
  obtain ⟨XJ, hX⟩ : ∃ X, v6.heap.size = X := ⟨_, rfl⟩
  rw [hX] at hz
  have SFJ := Lib.hid hz.1
  have HB7 := Lib.hid HBn
  have HVX := Lib.hid (And.intro hv hX)
  clear hz HBn hb hO hnJ hv hX CJ HB3 SA
  go_upto_region 12 with fail
  rw [HVX.out.1, HVX.out.2]
  clear HVX
  by_cases hE : J ≠ 0
  · have t : (J != 0) = true := by simpa using hE
    obtain rfl : nJ = 0 := by
      rcases CJ1.out with ⟨_, _, _, h⟩ | ⟨h, _⟩
      · rw [← HNJ.out, h]; rfl
      · exact absurd h hE
    obtain ⟨p0, p1, p2⟩ := SFJ.out.cells
    clear CA1 CJ1 CC1 hE HE HJ
    go_wp2_with fail
    go_ret
    exact ⟨rfl, HB7.out⟩
  obtain rfl : J = 0 := by omega
  clear hE
  obtain ⟨rfl, rfl, hBJ⟩ : SJ = SP ∧ KJ = KP ∧ BJ = orB B C := by
    rcases CJ1.out with ⟨h, _⟩ | ⟨_, h1, h2, h3⟩
    · exact absurd rfl h
    · exact ⟨h1, h2, h3⟩
  obtain ⟨z1, z2, z3, z4, z5⟩ := joinFE_zero HJ.out
  have hBC : B.length = C.length := by rw [HLL.out.1, HLL.out.2, z5]
  have hnl : nJ = len := by rw [← HNJ.out, hBJ, orB_len hBC]; exact HLL.out.1
  obtain ⟨h4, CD1, CD⟩ := fhas_all SJ KJ aJ nJ cJ BJ y
  have hE2 : filterE SJ KJ nJ = 0 := by rw [hnl]; exact HE.out
  rw [hE2] at CD CD1
  rw [z2] at CC CC1
  have H14 : Hid ((h1 = true → h4 = true) ∧ (h3 = true → h4 = true)) := Lib.hid (by
    rcases CA1.out with ⟨h, _⟩ | ⟨_, e1⟩
    · exact absurd rfl h
    rcases CC1.out with ⟨h, _⟩ | ⟨_, e3⟩
    · exact absurd rfl h
    rcases CD1.out with ⟨h, _⟩ | ⟨_, e4⟩
    · exact absurd rfl h
    rw [e4, hBJ, e1, e3, z3, z4]
    exact ⟨fun h => hasB_on (orB_left hBC) h, fun h => hasB_on (orB_right hBC) h⟩)
  clear hBJ hnl hE2 CD1 CC1 CA1 CJ1 z1 z2 z3 z4 z5 hBC
  obtain ⟨b0, b1, b2⟩ := SB.out.cells
  go_wp2_with fail
  clear b0 b1 b2
  refine (CC.out _ SB.out.2).mono ?_
  rintro e v8 ⟨rfl, hb8⟩
  replace SFJ := Lib.hid (SFJ.out.below hb8)
  replace HB7 := Lib.hid (below_on HB7.out hb8)
  clear hb8 CC SB
  obtain ⟨b0, b1, b2⟩ := SFJ.out.cells
  go_wp2_with fail
  clear b0 b1 b2
  refine (CD.out _ SFJ.out.2).mono ?_
  rintro e v9 ⟨rfl, hb9⟩
  replace HB7 := Lib.hid (below_on HB7.out hb9)
  clear hb9 CD SFJ
  obtain ⟨m1, m2⟩ := H14.out
  cases h1
  · cases h3
    · clear m1 m2
      go_wp2_with fail
      go_ret
      exact ⟨rfl, HB7.out⟩
    · have e4 := m2 rfl
      subst e4
      clear m1 m2
      go_wp2_with fail
      go_ret
      exact ⟨rfl, HB7.out⟩
  · have e4 := m1 rfl
    subst e4
    clear m1 m2
    cases h3
    · go_wp2_with fail
      go_ret
      exact ⟨rfl, HB7.out⟩
    · go_wp2_with fail
      go_ret
      exact ⟨rfl, HB7.out⟩

set_option maxRecDepth 100000 in
theorem lifted (os : Os) (started : os.Started) (H : Type) (enc : TypeId × Value → H) :
    ReturnsInHanded {} Try.checked os 10 .any (Rows.bloomGrowsSpec.pre6 enc Try.prog Try.f10 Rows.bloomGrowsRow.domain false) (Rows.bloomGrowsSpec.post enc Try.prog Try.f10 false true false false) := by
  refine returnsInHanded_of_change_sized (C := Try.checked) own started (by kernel_rfl) Try.func10
    (ChangeSpec.witness6 (enc := enc) (C := Try.checked) false ⟨#[], #[.agg #[.int .i64 0, .int .i64 0, .slice none 0 0], .agg #[.int .i64 0, .int .i64 0, .slice none 0 0], .int .i64 0, .int .i64 0], []⟩ 8 (by kernel_rfl) (by kernel_rfl) (by kernel_rfl) (by kernel_rfl)) ?_
  intro W base args ds gs before hval0 hW hcnd hsz0 _
  have hval : ∀ (j : Nat) t v, Try.f10.params[j]? = some t → args[j]? = some v → Value.okWide Try.prog W .any base t v := hval0
  have hW' := hW
  obtain ⟨p, q, hA0, hV, rfl, hfz, hnd⟩ := hW
  have hA : DataW.TrodAll enc Try.prog W 0 (fun _ => true) true Try.f10.params.toList args.toList ds p := hA0
  have hsz : (DataW.weightsEach Try.prog (Try.f10.params.toList ++ Rows.bloomGrowsSpec.plain.varTypes Try.prog) (ds ++ gs)).all (· ≤ reachBytes) = true := hsz0
  rw [Try.params10] at hA hval hsz
  obtain ⟨v0, vs0, d0, ds0, p0, q0, hargs, rfl, rfl, h0, r0⟩ := trodAll_cons hA
  obtain ⟨v1, vs1, d1, ds1, p1, q1, rfl, rfl, rfl, h1, r1⟩ := trodAll_cons r0
  obtain ⟨v2, vs2, d2, ds2, p2, q2, rfl, rfl, rfl, h2, r2⟩ := trodAll_cons r1
  obtain ⟨v3, vs3, d3, ds3, p3, q3, rfl, rfl, rfl, h3, r3⟩ := trodAll_cons r2
  obtain ⟨rfl, rfl, rfl⟩ := trodAll_nil r3
  obtain rfl : args = #[v0, v1, v2, v3] := by cases args; simp_all
  obtain ⟨rfl, rfl⟩ := trodVars_none hV
  have k0 := h0
  have L0 := light_of hsz (j := 0) (t := 33) (d := d0) rfl rfl
  have lt0 : ∀ x ∈ p0, x.block < W.heap.size := by obtain ⟨m, hm⟩ := k0; exact DataW.trod_lt m _ _ _ hm
  obtain ⟨cs0, rfl, hsz0⟩ := okWide_struct Try.underlying33 (hval 0 33 v0 rfl rfl)
  obtain ⟨n0, f0⟩ := trod_agg_of h0
  obtain ⟨c0_0, c0_1, c0_2, _, _, _, _, _, _, hcs0, g0_0, g0_1, g0_2⟩ := struct3 Try.underlying33 (by kernel_rfl) (by kernel_rfl) f0 L0
  obtain ⟨x0_0, e0_0, _, w0_0⟩ := DataW.trod_int Try.underlying3 g0_0.1
  obtain ⟨x0_1, e0_1, _, w0_1⟩ := DataW.trod_int Try.underlying3 g0_1.1
  obtain ⟨x0_2, e0_2, t0_2, b0_2, o0_2⟩ := el_slice (w := W) (k := 1) bC (fun _ => True) (by decide) Try.underlying31 (by kernel_rfl) (el_bool Try.underlying4) (B := 1) (by kernel_rfl) _ _ _ g0_2.1 g0_2.2
  simp only [slC, List.cons.injEq, and_true] at e0_0 e0_1 e0_2
  subst e0_0 e0_1 e0_2
  obtain rfl : cs0 = #[.int .i64 x0_0, .int .i64 x0_1, .slice x0_2.a x0_2.len x0_2.cap] := Array.toList_inj.1 hcs0
  have k1 := h1
  have L1 := light_of hsz (j := 1) (t := 33) (d := d1) rfl rfl
  have lt1 : ∀ x ∈ p1, x.block < W.heap.size := by obtain ⟨m, hm⟩ := k1; exact DataW.trod_lt m _ _ _ hm
  obtain ⟨cs1, rfl, hsz1⟩ := okWide_struct Try.underlying33 (hval 1 33 v1 rfl rfl)
  obtain ⟨n1, f1⟩ := trod_agg_of h1
  obtain ⟨c1_0, c1_1, c1_2, _, _, _, _, _, _, hcs1, g1_0, g1_1, g1_2⟩ := struct3 Try.underlying33 (by kernel_rfl) (by kernel_rfl) f1 L1
  obtain ⟨x1_0, e1_0, _, w1_0⟩ := DataW.trod_int Try.underlying3 g1_0.1
  obtain ⟨x1_1, e1_1, _, w1_1⟩ := DataW.trod_int Try.underlying3 g1_1.1
  obtain ⟨x1_2, e1_2, t1_2, b1_2, o1_2⟩ := el_slice (w := W) (k := 1) bC (fun _ => True) (by decide) Try.underlying31 (by kernel_rfl) (el_bool Try.underlying4) (B := 1) (by kernel_rfl) _ _ _ g1_2.1 g1_2.2
  simp only [slC, List.cons.injEq, and_true] at e1_0 e1_1 e1_2
  subst e1_0 e1_1 e1_2
  obtain rfl : cs1 = #[.int .i64 x1_0, .int .i64 x1_1, .slice x1_2.a x1_2.len x1_2.cap] := Array.toList_inj.1 hcs1
  have k2 := h2
  have L2 := light_of hsz (j := 2) (t := 3) (d := d2) rfl rfl
  have lt2 : ∀ x ∈ p2, x.block < W.heap.size := by obtain ⟨m, hm⟩ := k2; exact DataW.trod_lt m _ _ _ hm
  obtain ⟨x2, rfl, rfl, rfl, w2⟩ := open_int Try.underlying3 (hval 2 3 v2 rfl rfl) h2
  have k3 := h3
  have L3 := light_of hsz (j := 3) (t := 3) (d := d3) rfl rfl
  have lt3 : ∀ x ∈ p3, x.block < W.heap.size := by obtain ⟨m, hm⟩ := k3; exact DataW.trod_lt m _ _ _ hm
  obtain ⟨x3, rfl, rfl, rfl, w3⟩ := open_int Try.underlying3 (hval 3 3 v3 rfl rfl) h3
  clear hA0 hval0
  refine (walk x0_0 x0_1 x0_2 x1_0 x1_1 x1_2 x2 x3 W w0_0 w0_1 t0_2 b0_2 o0_2 w1_0 w1_1 t1_2 b1_2 o1_2 w2 w3).mono fun e W' ⟨he, hg⟩ => ?_
  subst he
  exact ⟨_, rfl, _, _, _, [], _, [], hW', trodAll_mk1 (shut_bool Try.underlying4 _), (trodAll_cons_mk (Below.trod laidOut (by kernel_rfl) (of_decide_eq_true (by kernel_rfl)) k0 hg lt0) (trodAll_cons_mk (Below.trod laidOut (by kernel_rfl) (of_decide_eq_true (by kernel_rfl)) k1 hg lt1) (trodAll_cons_mk (Below.trod laidOut (by kernel_rfl) (of_decide_eq_true (by kernel_rfl)) k2 hg lt2) (trodAll_cons_mk (Below.trod laidOut (by kernel_rfl) (of_decide_eq_true (by kernel_rfl)) k3 hg lt3) trodAll_mk0)))), rfl, hg.frame _, fun h => by cases h⟩

theorem over : Rows.bloomGrowsRow.holds Try.pinned (OpenSpec.ofChange Rows.bloomGrowsSpec) :=
  OpenClaim.holds_of_wide 10 Try.f10 rfl rfl rfl rfl rfl rfl rfl ⟨rfl, rfl, rfl, rfl, rfl⟩ rfl rfl rfl rfl rfl (by kernel_rfl) Try.func10 (by kernel_rfl)
    (of_decide_eq_true (by kernel_rfl)) (by unfold Func.isWrapper; first | (rw [if_pos (by decide +kernel)]; kernel_rfl) | (rw [if_neg (by decide +kernel)]; exact ⟨rfl, rfl⟩))
    (fun os started H enc _ => lifted os started H enc)

/-- ████ THE STATEMENT ████ -/
theorem proved : Rows.BloomGrowsSaid :=
  over
#print axioms proved
end Go.Proofs.Ytoijeafhohcbdaa.bloomGrows
