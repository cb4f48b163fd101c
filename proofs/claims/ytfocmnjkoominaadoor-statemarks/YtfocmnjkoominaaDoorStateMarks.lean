/-
  'Rows.StateMarksCardSaid' is proved: Mark and Set answer what the document says, for all arguments. No condition beyond the card's own (the listed variables start as the program's text lays them).
-/
import Derived.Test.YtfocmnjkoominaaDoorRows
import Derived.Test.YtfocmnjkoominaaDoorShapes
import Derived.Test.YtfocmnjkoominaaDoorCardFrame
import Derived.Test.YtfocmnjkoominaaDoorRefMark
import Derived.Test.YtfocmnjkoominaaDoorRefSet
import Derived.Test.YtfocmnjkoominaaDoorRefState
import Derived.Test.YtfocmnjkoominaaDoorStateSetAny
import Derived.Test.YtfocmnjkoominaaDoorPairsLit
import Derived.Test.YtfocmnjkoominaaDoorEqualPairs
import Derived.Deep.DeepCutAuto
import Derived.WalkKit
import Derived.ProofKit
import Derived.Test.YtfocmnjkoominaaDoorCards
import Derived.Test.YtfocmnjkoominaaDoorTie
import Derived.Lay
import Derived.LaidOnce
import Derived.SevenTiedAt
import Derived.OpenShut
import Derived.ShutString
import Derived.ChangeOld
import Derived.Below
import Derived.Shelf.Vars
namespace Go.Proofs.YtfocmnjkoominaaDoor.stateMarks
open Go.ChangeShapes Go.WideShapes Go.ChangeAt Go.RowKit
open Go.ChangeMaps (open_string shut_string)
set_option linter.unusedVariables false

theorem own : ownKnob Tryd.prog.godebug = none := by kernel_rfl
theorem laidOut : laidOutB Tryd.prog = true := by kernel_rfl

open StateMath
theorem says_parts : (markOf [((⟨#[116, 104]⟩ : ByteArray), (⟨#[56]⟩ : ByteArray))]).2 = 0 ∧ (markOf [((⟨#[116, 104]⟩ : ByteArray), (⟨#[56]⟩ : ByteArray))]).1.th = 36028797018963968 ∧ (markOf [((⟨#[116, 104]⟩ : ByteArray), (⟨#[56]⟩ : ByteArray))]).1.rv = 0 ∧ (markOf [((⟨#[116, 104]⟩ : ByteArray), (⟨#[56]⟩ : ByteArray))]).1.ht = true ∧ (markOf [((⟨#[116, 104]⟩ : ByteArray), (⟨#[56]⟩ : ByteArray))]).1.hr = false := by decide +kernel
theorem mk_eq {x : Mk × Int} {a b e : Int} {c d : Bool} (h : x.2 = e ∧ x.1.th = a ∧ x.1.rv = b ∧ x.1.ht = c ∧ x.1.hr = d) : x = (⟨a, b, c, d⟩, e) := by
  obtain ⟨⟨x1, x2, x3, x4⟩, x5⟩ := x
  obtain ⟨h1, h2, h3, h4, h5⟩ := h
  simp only at h1 h2 h3 h4 h5
  subst h1 h2 h3 h4 h5
  rfl
theorem says_lit : markOf [((⟨#[116, 104]⟩ : ByteArray), (⟨#[56]⟩ : ByteArray))] = (⟨36028797018963968, 0, true, false⟩, 0) := mk_eq says_parts
theorem blk_on {w1 w2 : World} {b : Nat} {o : Obj} (hb : Below w1.heap.size w1 w2) (h : w1.heap[b]? = some o) : w2.heap[b]? = some o := (hb.block b (Array.getElem?_eq_some_iff.1 h).1).trans h

set_option maxRecDepth 100000 in
set_option maxHeartbeats 2000000 in
theorem walk (x0 : Sl (ByteArray × ByteArray)) (x1_0 : Int) (x1_1 : Int) (x1_2 : Bool) (x1_3 : Bool) (w : World) (t0 : Tab w x0.a x0.len x0.cap 2 (x0.l.map ssC)) (b0 : x0.len * 32 ≤ 140737488351232) (o0 : ∀ z ∈ x0.l, wfSS z) (w1_0 : (Lit.int .i64 x1_0).wf = true) (w1_1 : (Lit.int .i64 x1_1).wf = true) :
    Calls Tryd.prog 3 #[.slice x0.a x0.len x0.cap, .agg #[.int .i64 x1_0, .int .i64 x1_1, .bool x1_2, .bool x1_3]] w fun e w' => e = .returned (.bool true) ∧ Below w.heap.size w w' := by
  obtain ⟨a, len, cap, L⟩ := x0
  have hT : Tab w a len cap 2 (L.map ssC) := t0
  have hO : ∀ p ∈ L, p.1.size ≤ maxLen ∧ p.2.size ≤ maxLen := fun p hp => by have := o0 p hp; unfold wfSS at this; unfold maxLen; omega
  generalize x1_0 = th at *
  generalize x1_1 = rv at *
  generalize x1_2 = ht at *
  generalize x1_3 = hr at *
  have hb0 : Below w.heap.size w (w.alloc (.cells (mkC ⟨th, rv, ht, hr⟩) 24)) := (Below.refl _ _).alloc (Nat.le_refl _) _
  have hM := (MapKept.heap_alloc w (.cells (mkC ⟨th, rv, ht, hr⟩) 24)).1
  have HT := Lib.hid hT
  have HO := Lib.hid hO
  have HB0 := Lib.hid hb0
  have HM0 := Lib.hid hM
  have CM := mark_any a len cap L _ (hT.below hb0) hO
  obtain ⟨mm, hmm⟩ : ∃ x, markOf L = x := ⟨_, rfl⟩
  rw [hmm] at CM
  obtain ⟨⟨m1, m2, m3, m4⟩, e1⟩ := mm
  unfold markV mkC at CM
  simp only at CM
  have HMM := Lib.hid hmm
  have CM := Lib.hid CM
  have CS := Lib.hid (fun W (hb : Below w.heap.size w W) => set_any a len cap L th rv ht hr W (hT.below hb) hO)
  have CP := Lib.hid (fun W (hb : Below w.heap.size w W) => refPairs_any a len cap L W (hT.below hb) hO)
  obtain ⟨SS, hSS⟩ : ∃ x, setOf L ⟨th, rv, ht, hr⟩ = x := ⟨_, rfl⟩
  rw [hSS] at CS
  obtain ⟨sl, se⟩ := SS
  have HSS := Lib.hid hSS
  clear hT hO t0 o0 b0 w1_0 w1_1 hb0 hM hmm hSS
  unfold mkC at HB0 HM0
  go_enter Tryd.func3, Tryd.ntmps3
  go_wp2_with fail
  refine CM.out.mono ?_
  rintro e v1 ⟨rfl, hb1⟩
  have hB1 := below_on HB0.out hb1
  have hM1 := blk_on hb1 HM0.out
  have hal : Below v1.heap.size v1 (v1.alloc (.cells #[.int .i64 m1, .int .i64 m2, .bool m3, .bool m4] 24)) := (Below.refl _ _).alloc (Nat.le_refl _) _
  have HX5 := (MapKept.heap_alloc v1 (.cells #[.int .i64 m1, .int .i64 m2, .bool m3, .bool m4] 24)).1
  have hM2 := blk_on hal hM1
  have hB2 := below_on hB1 hal
  obtain ⟨v2, hv2⟩ : ∃ v, v1.alloc (.cells #[.int .i64 m1, .int .i64 m2, .bool m3, .bool m4] 24) = v := ⟨_, rfl⟩
  obtain ⟨X5, hX5⟩ : ∃ x, v1.heap.size = x := ⟨_, rfl⟩
  rw [hv2, hX5] at HX5
  rw [hv2] at hM2 hB2
  have HX5 := Lib.hid HX5
  have HM2 := Lib.hid hM2
  have HB2 := Lib.hid hB2
  have HV := Lib.hid (And.intro hv2 hX5)
  clear hv2 hX5 hal hb1 hM1 hM2 hB1 hB2 CM HB0 HM0
  go_upto_region 2 with fail
  rw [HV.out.1, HV.out.2]
  clear HV
  obtain ⟨c0, c1, c2, c3, _, _, _, _⟩ := four_of (m := ⟨th, rv, ht, hr⟩) HM2.out
  go_wp2_with fail
  refine (CS.out _ HB2.out).mono ?_
  rintro e v3 ⟨y, rfl, hO3, hb3⟩
  obtain ⟨ay, cy, rfl, hTy⟩ := hO3.tab
  rw [List.length_map] at hTy ⊢
  obtain ⟨ny, hny⟩ : ∃ u, sl.length = u := ⟨_, rfl⟩
  rw [hny] at hTy ⊢
  have HNY := Lib.hid hny
  have HTY := Lib.hid hTy
  have HB3 := Lib.hid (below_on HB2.out hb3)
  have HM3 := Lib.hid (blk_on hb3 HM2.out)
  replace HX5 := Lib.hid (blk_on hb3 HX5.out)
  have hal : Below v3.heap.size v3 (v3.alloc (.cells #[.string ⟨#[116, 104]⟩, .string ⟨#[56]⟩] 31)) := (Below.refl _ _).alloc (Nat.le_refl _) _
  have CL := mark_any (some ⟨v3.heap.size, 0, none⟩) 1 1 [((⟨#[116, 104]⟩ : ByteArray), (⟨#[56]⟩ : ByteArray))] (v3.alloc (.cells #[.string ⟨#[116, 104]⟩, .string ⟨#[56]⟩] 31)) (tab_lit v3 31 2 1 ([((⟨#[116, 104]⟩ : ByteArray), (⟨#[56]⟩ : ByteArray))].map ssC) #[.string ⟨#[116, 104]⟩, .string ⟨#[56]⟩] rfl rfl (rows_of ssC_len _) (by decide) _ rfl) (by intro p hp; obtain rfl := List.mem_singleton.1 hp; unfold maxLen; decide)
  rw [says_lit] at CL
  unfold markV mkC at CL
  simp only at CL
  have CL := Lib.hid CL
  have HAL := Lib.hid hal
  clear c0 c1 c2 c3 hO3 hTy hb3 hny hal CS HB2 HM2
  go_wp2_with fail
  refine CL.out.mono ?_
  rintro e v4 ⟨rfl, hb4⟩
  have hb34 := below_on HAL.out hb4
  have HB4 := Lib.hid (below_on HB3.out hb34)
  have HM4 := Lib.hid (blk_on hb34 HM3.out)
  replace HX5 := Lib.hid (blk_on hb34 HX5.out)
  replace HTY := Lib.hid (HTY.out.below hb34)
  have q1 := fun W => eql_mark 36028797018963968 0 36028797018963968 0 true false true false W true (by simp)
  have hal : Below v4.heap.size v4 (v4.alloc (.cells #[.int .i64 36028797018963968, .int .i64 0, .bool true, .bool false] 24)) := (Below.refl _ _).alloc (Nat.le_refl _) _
  have HAL2 := Lib.hid hal
  clear hal hb34 hb4 CL HAL HB3 HM3
  go_upto_region 6 with fail
  have HB5 := Lib.hid (below_on HB4.out HAL2.out)
  have HM5 := Lib.hid (blk_on HAL2.out HM4.out)
  replace HX5 := Lib.hid (blk_on HAL2.out HX5.out)
  replace HTY := Lib.hid (HTY.out.below HAL2.out)
  have CPP := Lib.hid (CP.out _ HB5.out)
  obtain ⟨v5, hv5⟩ : ∃ v, v4.alloc (.cells #[.int .i64 36028797018963968, .int .i64 0, .bool true, .bool false] 24) = v := ⟨_, rfl⟩
  rw [hv5] at HB5 HM5 HX5 HTY CPP ⊢
  clear hv5 HAL2 HB4 HM4 CP q1
  go_wp2_with fail
  refine CPP.out.mono ?_
  rintro e v6 ⟨rfl, hb6⟩
  replace HB5 := Lib.hid (below_on HB5.out hb6)
  replace HM5 := Lib.hid (blk_on hb6 HM5.out)
  replace HX5 := Lib.hid (blk_on hb6 HX5.out)
  replace HTY := Lib.hid (HTY.out.below hb6)
  clear hb6 CPP
  obtain ⟨c, hc⟩ : ∃ x, check L = x := ⟨_, rfl⟩
  rw [hc]
  by_cases hne : c ≠ 0
  · have h1 : ((⟨m1, m2, m3, m4⟩ : Mk), e1) = (Mk.zero, c) := by rw [← HMM.out, ← hc]; exact markOf_bad (by rw [hc]; exact hne)
    have h2 : (sl, se) = (([] : List Pr), c) := by rw [← HSS.out, ← hc]; exact setOf_bad (by rw [hc]; exact hne)
    simp only [Prod.mk.injEq, Mk.zero, Mk.mk.injEq] at h1 h2
    obtain ⟨⟨rfl, rfl, rfl, rfl⟩, rfl⟩ := h1
    obtain ⟨rfl, rfl⟩ := h2
    obtain rfl : ny = 0 := by rw [← HNY.out]; rfl
    have t1 : (se != 0) = true := by simpa using hne
    have t2 : (se == se) = true := by simp
    have q1 := fun W => eql_mark 0 0 0 0 false false false false W true (by simp)
    obtain ⟨d0, d1, d2, d3, _, _, _, _⟩ := four_of (m := ⟨0, 0, false, false⟩) HX5.out
    clear hc hne
    go_wp2
    go_ret
    exact ⟨rfl, HB5.out⟩
  · obtain rfl : c = 0 := by omega
    have hl40 : len ≤ 1000 := by
      have hx := HT.out.hlen
      rw [List.length_map] at hx
      unfold check at hc
      split at hc
      · cases hc
      · omega
    have hMK := refMark_any a len cap L v6 (HT.out.below HB5.out) HO.out hc
    rw [HMM.out] at hMK
    unfold markV mkC at hMK
    simp only at hMK
    have CMK := Lib.hid hMK
    have hSB := setB_of (m := ⟨th, rv, ht, hr⟩) hc
    rw [HSS.out] at hSB
    have CST := Lib.hid (fun W (hb : Below w.heap.size w W) => by
      have h := refSet_any a len cap L th rv ht hr W (HT.out.below hb) hl40
      rw [← hSB] at h
      exact h)
    have t1 : (e1 == e1) = true := by simp
    have t2 : (se == se) = true := by simp
    clear hMK hSB hc hne
    go_wp2_with fail
    refine CMK.out.mono ?_
    rintro e v7 ⟨rfl, hb7⟩
    have hal : Below v7.heap.size v7 (v7.alloc (.cells #[.int .i64 m1, .int .i64 m2, .bool m3, .bool m4] 24)) := (Below.refl _ _).alloc (Nat.le_refl _) _
    have hX12 := (MapKept.heap_alloc v7 (.cells #[.int .i64 m1, .int .i64 m2, .bool m3, .bool m4] 24)).1
    have hbb := below_on hb7 hal
    obtain ⟨v8, hv8⟩ : ∃ v, v7.alloc (.cells #[.int .i64 m1, .int .i64 m2, .bool m3, .bool m4] 24) = v := ⟨_, rfl⟩
    obtain ⟨X12, hX⟩ : ∃ x, v7.heap.size = x := ⟨_, rfl⟩
    rw [hv8, hX] at hX12
    rw [hv8] at hbb
    have HX12 := Lib.hid hX12
    replace HB5 := Lib.hid (below_on HB5.out hbb)
    replace HM5 := Lib.hid (blk_on hbb HM5.out)
    replace HX5 := Lib.hid (blk_on hbb HX5.out)
    replace HTY := Lib.hid (HTY.out.below hbb)
    have HV := Lib.hid (And.intro hv8 hX)
    clear hb7 hal hX12 hbb hv8 hX CMK
    go_upto_region 10 with fail
    rw [HV.out.1, HV.out.2]
    clear HV
    obtain ⟨c0, c1, c2, c3, _, _, _, _⟩ := four_of (m := ⟨th, rv, ht, hr⟩) HM5.out
    go_wp2_with fail
    refine (CST.out _ HB5.out).mono ?_
    rintro e v9 ⟨q, rfl, hO9, hb9⟩
    obtain ⟨aq, cq, rfl, hTq⟩ := hO9.tab
    rw [List.length_map] at hTq ⊢
    obtain ⟨nq, hnq⟩ : ∃ u, sl.length = u := ⟨_, rfl⟩
    rw [hnq] at hTq ⊢
    replace HB5 := Lib.hid (below_on HB5.out hb9)
    replace HX5 := Lib.hid (blk_on hb9 HX5.out)
    replace HX12 := Lib.hid (blk_on hb9 HX12.out)
    replace HTY := Lib.hid (HTY.out.below hb9)
    have CE := Lib.hid (equal_pairs ay aq ny cy nq cq sl sl v9 HTY.out hTq true (by simp))
    clear hO9 hTq hnq hb9 CST c0 c1 c2 c3 HM5
    obtain ⟨d0, d1, d2, d3, _, _, _, _⟩ := four_of (m := ⟨m1, m2, m3, m4⟩) HX5.out
    obtain ⟨g0, g1, g2, g3, _, _, _, _⟩ := four_of (m := ⟨m1, m2, m3, m4⟩) HX12.out
    have q1 := fun W => eql_mark m1 m2 m1 m2 m3 m4 m3 m4 W true (by simp)
    go_wp2_with fail
    refine CE.out.mono ?_
    rintro e v10 ⟨rfl, hb10⟩
    clear q1 d0 d1 d2 d3 g0 g1 g2 g3
    go_wp2
    go_ret
    exact ⟨rfl, below_on HB5.out hb10⟩

set_option maxRecDepth 100000 in
theorem lifted (os : Os) (started : os.Started) (H : Type) (enc : TypeId × Value → H) :
    ReturnsInHanded {} Tryd.checked os 3 .any (fun w args => (Rows.stateMarksSpec.pre enc Tryd.prog Tryd.f3 Rows.stateMarksRow.domain false w args ∧ laidMetH Tryd.prog Rows.stateMarksRow.laid w) ∧ sizedMet enc Tryd.prog Tryd.f3 (OpenSpec.ofChange Rows.stateMarksSpec) false w args) (Rows.stateMarksSpec.post enc Tryd.prog Tryd.f3 false true false false) := by
  refine handed_and_shaped (C := Tryd.checked) (X := fun w _ => laidMetH Tryd.prog Rows.stateMarksRow.laid w) (fun _ _ _ hh h => h.of_heap hh) own started (by kernel_rfl) Tryd.func3
    (ChangeSpec.witness_shaped (enc := enc) (C := Tryd.checked) (os := os) (X := fun w _ => laidMetH Tryd.prog Rows.stateMarksRow.laid w) false (World.laidAll Tryd.prog os Rows.stateMarksRow.laid) #[.slice none 0 0, .agg #[.int .i64 0, .int .i64 0, .bool false, .bool false]] 8 (World.laidAll_os _ _ _)
      (World.shaped_of_ZipB (by kernel_rfl) (by kernel_rfl)) (by kernel_rfl) (by kernel_rfl) (by kernel_rfl)
      (by rw [MakeChecks.laidMetH_plain _ _ _ (by kernel_rfl)]; exact laidMet_laidAll _ (by kernel_rfl) (by kernel_rfl))) ?_
  intro W base args ds gs before hval0 hW hcnd hsz0 hL hsh _
  have hval : ∀ (j : Nat) t v, Tryd.f3.params[j]? = some t → args[j]? = some v → Value.okWide Tryd.prog W .any base t v := hval0
  have hW' := hW
  obtain ⟨p, q, hA0, hV, rfl, hfz, hnd⟩ := hW
  have hA : DataW.TrodAll enc Tryd.prog W 0 (fun _ => true) true Tryd.f3.params.toList args.toList ds p := hA0
  have hsz : (DataW.weightsEach Tryd.prog (Tryd.f3.params.toList ++ Rows.stateMarksSpec.plain.varTypes Tryd.prog) (ds ++ gs)).all (· ≤ reachBytes) = true := hsz0
  rw [Tryd.params3] at hA hval hsz
  obtain ⟨v0, vs0, d0, ds0, p0, q0, hargs, rfl, rfl, h0, r0⟩ := trodAll_cons hA
  obtain ⟨v1, vs1, d1, ds1, p1, q1, rfl, rfl, rfl, h1, r1⟩ := trodAll_cons r0
  obtain ⟨rfl, rfl, rfl⟩ := trodAll_nil r1
  obtain rfl : args = #[v0, v1] := by cases args; simp_all
  obtain ⟨rfl, rfl⟩ := trodVars_none hV
  have k0 := h0
  have L0 := light_of hsz (j := 0) (t := 22) (d := d0) rfl rfl
  have lt0 : ∀ x ∈ p0, x.block < W.heap.size := by obtain ⟨m, hm⟩ := k0; exact DataW.trod_lt m _ _ _ hm
  obtain ⟨a0, len0, cap0, rfl⟩ := okWide_slice Tryd.underlying22 (hval 0 22 v0 rfl rfl)
  obtain ⟨n0, f0⟩ := trod_slice_of Tryd.underlying22 h0
  have F0 := And.intro f0 L0
  obtain ⟨x0, e0, t0, b0, o0⟩ := el_slice (w := W) (k := 2) ssC wfSS (by decide) Tryd.underlying22 (by kernel_rfl) (el_ss Tryd.underlying31 (by kernel_rfl) (by kernel_rfl) Tryd.underlying9 Tryd.underlying9) (B := 32) (by kernel_rfl) _ _ _ F0.1 F0.2
  simp only [slC, List.cons.injEq, Value.slice.injEq, and_true] at e0
  obtain ⟨rfl, rfl, rfl⟩ := e0
  have k1 := h1
  have L1 := light_of hsz (j := 1) (t := 24) (d := d1) rfl rfl
  have lt1 : ∀ x ∈ p1, x.block < W.heap.size := by obtain ⟨m, hm⟩ := k1; exact DataW.trod_lt m _ _ _ hm
  obtain ⟨cs1, rfl, hsz1⟩ := okWide_struct Tryd.underlying24 (hval 1 24 v1 rfl rfl)
  obtain ⟨n1, f1⟩ := trod_agg_of h1
  obtain ⟨c1_0, c1_1, c1_2, c1_3, _, _, _, _, _, _, _, _, hcs1, g1_0, g1_1, g1_2, g1_3⟩ := struct4 Tryd.underlying24 (by kernel_rfl) (by kernel_rfl) f1 L1
  obtain ⟨x1_0, e1_0, _, w1_0⟩ := DataW.trod_int Tryd.underlying3 g1_0.1
  obtain ⟨x1_1, e1_1, _, w1_1⟩ := DataW.trod_int Tryd.underlying3 g1_1.1
  obtain ⟨x1_2, e1_2, _⟩ := DataW.trod_bool Tryd.underlying4 g1_2.1
  obtain ⟨x1_3, e1_3, _⟩ := DataW.trod_bool Tryd.underlying4 g1_3.1
  simp only [slC, List.cons.injEq, and_true] at e1_0 e1_1 e1_2 e1_3
  subst e1_0 e1_1 e1_2 e1_3
  obtain rfl : cs1 = #[.int .i64 x1_0, .int .i64 x1_1, .bool x1_2, .bool x1_3] := Array.toList_inj.1 hcs1
  clear hA0 hval0
  refine (walk x0 x1_0 x1_1 x1_2 x1_3 W t0 b0 o0 w1_0 w1_1).mono fun e W' ⟨he, hg⟩ => ?_
  subst he
  exact ⟨_, rfl, _, _, _, [], _, [], hW', trodAll_mk1 (shut_bool Tryd.underlying4 _), (trodAll_cons_mk (Below.trod laidOut (by kernel_rfl) (of_decide_eq_true (by kernel_rfl)) k0 hg lt0) (trodAll_cons_mk (Below.trod laidOut (by kernel_rfl) (of_decide_eq_true (by kernel_rfl)) k1 hg lt1) trodAll_mk0)), rfl, hg.frame _, fun h => by cases h⟩

theorem over : Rows.stateMarksRow.holds Tryd.pinned (OpenSpec.ofChange Rows.stateMarksSpec) :=
  OpenClaim.holds_of_wide 3 Tryd.f3 rfl rfl rfl rfl rfl rfl rfl ⟨rfl, rfl, rfl, rfl, rfl⟩ rfl rfl rfl rfl rfl (by kernel_rfl) Tryd.func3 (by kernel_rfl)
    (of_decide_eq_true (by kernel_rfl)) (by unfold Func.isWrapper; first | (rw [if_pos (by decide +kernel)]; kernel_rfl) | (rw [if_neg (by decide +kernel)]; exact ⟨rfl, rfl⟩))
    (fun os started H enc _ => lifted os started H enc)

/-- ████ THE CARD ████ -/
theorem proved : Rows.StateMarksCardSaid :=
  Claim7.holds_tied_plain_at .later [] _ _ _ _ over (fun _ h => by cases h) (by kernel_rfl) (fun _ h => by cases h) stateMarks_row_tie rfl ⟨rfl, rfl⟩ (by kernel_rfl) rfl
    (fun f fn hf hfn => by
      obtain rfl : f = 3 := Option.some.inj ((show Tryd.prog.funcNamed "cullender/cullaw.StateMarks" = some 3 by kernel_rfl).symm.trans hf) |>.symm
      obtain rfl : fn = Tryd.f3 := (Option.some.inj (Tryd.func3.symm.trans hfn)).symm
      exact ⟨by kernel_rfl, fun j t ht => by
        rw [Tryd.params3] at ht
        have hm : t ∈ [22, 24] := by have := Array.mem_of_getElem? ht; simp at this ⊢; first | omega | exact this | (rcases this with h | h <;> simp [h]) | (rcases this with h | h | h <;> simp [h])
        have hall : ([22, 24].all fun u => !Tryd.prog.wantsStandIn u) = true := by kernel_rfl
        exact (show Tryd.prog.wantsStandIn t = false by simpa using List.all_eq_true.1 hall t hm)⟩)
    (by kernel_rfl)
#print axioms proved
end Go.Proofs.YtfocmnjkoominaaDoor.stateMarks
