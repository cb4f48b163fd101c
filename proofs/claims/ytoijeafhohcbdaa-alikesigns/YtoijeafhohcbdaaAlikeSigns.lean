/-
  'Rows.AlikeSignsSaid' is proved: signs of one set are the same at all places, no more places are the same than there are orders, and sets with nothing in common have nothing alike. No condition.
-/
import Derived.Test.YtoijeafhohcbdaaRows
import Derived.Test.YtoijeafhohcbdaaShapes
import Derived.Test.YtoijeafhohcbdaaOrderRows
import Derived.Test.YtoijeafhohcbdaaThingsMath
import Derived.Test.YtoijeafhohcbdaaRefFact
import Derived.Test.YtoijeafhohcbdaaDigitOrder
import Derived.Test.YtoijeafhohcbdaaLit
import Derived.Test.YtoijeafhohcbdaaSubSlice
import Derived.Deep.DeepCutAuto
import Derived.WalkKit
import Derived.ProofKit
import Derived.OpenShut
import Derived.ShutString
import Derived.ChangeOld
import Derived.Below
namespace Go.Proofs.Ytoijeafhohcbdaa.alikeSigns
open Go.ChangeShapes Go.WideShapes Go.ChangeAt Go.RowKit
open Go.ChangeMaps (open_string shut_string)
set_option linter.unusedVariables false

theorem own : ownKnob Try.prog.godebug = none := by kernel_rfl
theorem laidOut : laidOutB Try.prog = true := by kernel_rfl

open Alk Digit Find
theorem elem_intS : Try.prog.elem 23 = 3 := by kernel_rfl
theorem size_intS (w : World) : (sizeOf 3).run Try.prog w = .ok 1 w := by kernel_rfl
theorem lit_same : ((if sameE 3 3 = 0 then ((sameTo [1, 2, 3] [1, 5, 3] 3 : Nat) : Int) else 0) = 2) ∧ sameE 3 3 = 0 := by decide +kernel
theorem signs_good {S : List (Sl Int)} {A l : List Int} {n : Nat} {w : World} {v : Value} (hS : Rows_ w n v S) (hn : n ≤ 12) (hl : S.length ≤ 20) (hA : A = thingsL l n) (hne : A ≠ []) : signE (S.map (·.l)) A = 0 := by
  unfold signE
  rw [if_neg (by rw [List.length_map]; omega)]
  refine goG_zero.2 (fun o ho => ?_)
  obtain ⟨s, hs, rfl⟩ := List.mem_map.1 ho
  have g := hS s hs
  rw [hA] at hne ⊢
  exact things_good g.len hn g.ok hne
theorem signs_apart {S : List (Sl Int)} {A B : List Int} (hA : A ≠ []) (hB : B ≠ []) (h : A.any (fun t => decide (t ∈ B)) = false) : sameTo (signL (S.map (·.l)) A) (signL (S.map (·.l)) B) S.length = 0 := by
  refine sameTo_none (fun i hi => ?_)
  have e : (S.map (·.l))[i]? = some (S[i]).l := by rw [List.getElem?_map, List.getElem?_eq_getElem hi]; rfl
  have e1 : ∀ C : List Int, ((signL (S.map (·.l)) C)[i]?).getD 0 = firstV (S[i]).l C := fun C => by
    unfold signL
    rw [List.getElem?_map (l := S.map (·.l)), e]
    rfl
  rw [e1, e1]
  intro hx
  have h1 := (firstV_spec (o := (S[i]).l) hA).1
  have h2 := (firstV_spec (o := (S[i]).l) hB).1
  rw [List.any_eq_false] at h
  have h3 := h _ h1
  rw [hx] at h3
  simp [h2] at h3

set_option maxRecDepth 100000 in
set_option maxHeartbeats 2000000 in
theorem walk (x0 : Sl Int) (x1 : Sl Int) (x2 : Sl Int) (x3 : Int) (w : World) (t0 : Tab w x0.a x0.len x0.cap 1 (x0.l.map iC)) (b0 : x0.len * 8 ≤ 140737488351232) (o0 : ∀ z ∈ x0.l, wfI z) (t1 : Tab w x1.a x1.len x1.cap 1 (x1.l.map iC)) (b1 : x1.len * 8 ≤ 140737488351232) (o1 : ∀ z ∈ x1.l, wfI z) (t2 : Tab w x2.a x2.len x2.cap 1 (x2.l.map iC)) (b2 : x2.len * 8 ≤ 140737488351232) (o2 : ∀ z ∈ x2.l, wfI z) (w3 : (Lit.int .i64 x3).wf = true) :
    Calls Try.prog 9 #[.slice x0.a x0.len x0.cap, .slice x1.a x1.len x1.cap, .slice x2.a x2.len x2.cap, .int .i64 x3] w fun e w' => e = .returned (.bool true) ∧ Below w.heap.size w w' := by
  obtain ⟨q, ln, cp, L⟩ := x0
  obtain ⟨a, len, cap, l⟩ := x1
  obtain ⟨b, len2, cap2, m⟩ := x2
  have hT0 : Tab w q ln cp 1 (L.map iC) := t0
  have hT1 : Tab w a len cap 1 (l.map iC) := t1
  have hT2 : Tab w b len2 cap2 1 (m.map iC) := t2
  have hO0 : ∀ z ∈ L, wfI z := o0
  have hO1 : ∀ z ∈ l, wfI z := o1
  have hO2 : ∀ z ∈ m, wfI z := o2
  have c3 := wf_i64 w3
  clear t0 t1 t2 o0 o1 o2 b0 b1 b2 w3
  have hl0 : L.length = ln := by have h := hT0.hlen; rw [List.length_map] at h; exact h
  have hmx := hT0.hmax
  have hle := hT0.hle
  unfold maxLen at hmx
  have hbl : Below w.heap.size w ((w.alloc (.cells #[.int .i64 1, .int .i64 2, .int .i64 3] 3)).alloc (.cells #[.int .i64 1, .int .i64 5, .int .i64 3] 3)) := ((Below.refl _ _).alloc (Nat.le_refl _) _).alloc (by simp) _
  have hba : Below (w.alloc (.cells #[.int .i64 1, .int .i64 2, .int .i64 3] 3)).heap.size (w.alloc (.cells #[.int .i64 1, .int .i64 2, .int .i64 3] 3)) ((w.alloc (.cells #[.int .i64 1, .int .i64 2, .int .i64 3] 3)).alloc (.cells #[.int .i64 1, .int .i64 5, .int .i64 3] 3)) := (Below.refl _ _).alloc (Nat.le_refl _) _
  have CL := same_any (some ⟨w.heap.size, 0, none⟩) (some ⟨w.heap.size + 1, 0, none⟩) 3 3 3 3 [1, 2, 3] [1, 5, 3] _ ((tab_lit w 3 1 3 ([(1 : Int), 2, 3].map iC) #[.int .i64 1, .int .i64 2, .int .i64 3] rfl rfl (rows_of iC_len _) (by decide) _ rfl).below hba) (tab_lit (w.alloc (.cells #[.int .i64 1, .int .i64 2, .int .i64 3] 3)) 3 1 3 ([(1 : Int), 5, 3].map iC) #[.int .i64 1, .int .i64 5, .int .i64 3] rfl rfl (rows_of iC_len _) (by decide) _ (by simp))
  rw [lit_same.1, lit_same.2] at CL
  replace CL := Lib.hid CL
  have HB0 := Lib.hid hbl
  have HW1 := Lib.hid (fun W => within_int x3 12 W c3 (by omega) (by omega))
  have d1 := withI_bd x3 12 (by omega)
  generalize withI x3 12 = K at *
  obtain ⟨n, hn⟩ := Int.eq_ofNat_of_zero_le (show 0 ≤ 1 + K by omega)
  have n1 : 1 ≤ n := by omega
  have n2 : n ≤ 12 := by omega
  have hK0 := d1.1
  have hK1 := d1.2
  have HN := Lib.hid hn
  have hf0 := fact_pos n
  have hf1 := fact_max n2
  have HF := Lib.hid (fun W => refFact_any n n2 W)
  have HW2 := Lib.hid (fun (x : Int) (hx : wfI x) W => within_int x (fact n : Nat) W (wf_i64 hx) (by omega) (by omega))
  have HO := Lib.hid (fun r (hr : r < fact n) W => order_ok n r n2 hr W)
  have HOK := Lib.hid (fun r (hr : r < fact n) => orderOf_ok hr)
  have HTA := Lib.hid (fun W (hb : Below w.heap.size w W) => things_any a len cap l n W (hT1.below hb) hO1 n1 n2)
  have HTB := Lib.hid (fun W (hb : Below w.heap.size w W) => things_any b len2 cap2 m n W (hT2.below hb) hO2 n1 n2)
  obtain ⟨nn, hnn⟩ : ∃ u, min ln 20 = u := ⟨_, rfl⟩
  have hnn1 : nn ≤ ln := by omega
  have hnn2 : nn ≤ 20 := by omega
  have hmin : min (ln : Int) 20 = (nn : Int) := by omega
  have HMIN := Lib.hid hmin
  have HU := Lib.hid (fun W => run_upto 23 3 1 Try.underlying23 elem_intS size_intS q ln cp nn (by omega) W)
  have HT0 := Lib.hid hT0
  have HO0 := Lib.hid hO0
  have HLN := Lib.hid hl0
  obtain ⟨A, hA⟩ : ∃ A, thingsL l n = A := ⟨_, rfl⟩
  obtain ⟨B, hB⟩ : ∃ B, thingsL m n = B := ⟨_, rfl⟩
  rw [hA] at HTA
  rw [hB] at HTB
  have HAB := Lib.hid (And.intro hA.symm hB.symm)
  obtain ⟨f, hf⟩ : ∃ f, fact n = f := ⟨_, rfl⟩
  rw [hf] at HF HW2 HO HOK hf0 hf1
  clear hT0 hT1 hT2 hO0 hO1 hO2 hl0 hbl hba c3 d1 hn hnn hmin hA hB hf
  go_enter Try.func9, Try.ntmps9
  go_wp2_with fail
  refine CL.out.mono ?_
  rintro e v1 ⟨rfl, hv1⟩
  rw [← hv1]
  clear hv1 CL
  obtain ⟨v2, hv2⟩ : ∃ v, (w.alloc (.cells #[.int .i64 1, .int .i64 2, .int .i64 3] 3)).alloc (.cells #[.int .i64 1, .int .i64 5, .int .i64 3] 3) = v := ⟨_, rfl⟩
  rw [hv2] at HB0 ⊢
  clear hv2
  go_wp2_with fail
  refine (HW1.out _).mono ?_
  rintro e v3 ⟨rfl, hv3⟩
  rw [← hv3]
  clear hv3 HW1
  go_upto_region 5 with fail
  rw [HN.out]
  clear HN
  go_upto_region 6 with fail
  go_cut [48, 49, 50] (fun s t i wx => s = .slice q nn cp ∧ t = .int .i64 nn ∧ i = .int .i64 0 ∧ wx = v2)
  case first =>
    have rU := HU.out
    have hmin := HMIN.out
    by_cases h9 : ln ≤ 20
    · obtain rfl : nn = ln := by omega
      clear hmin
      go_wp2_with fail
      go_meet
      case rel => exact ⟨by first | rfl | exact congrArg (fun t => Value.slice q t cp) (by omega), by first | rfl | exact congrArg (Value.int IntKind.i64) (by omega), rfl, rfl⟩
    · obtain rfl : nn = 20 := by omega
      have h9' : 20 < ln := by omega
      clear h9 hmin
      go_wp2_with fail
      go_meet
      case rel => exact ⟨by first | rfl | exact congrArg (fun t => Value.slice q t cp) (by omega), by first | rfl | exact congrArg (Value.int IntKind.i64) (by omega), rfl, rfl⟩
  case rest =>
  obtain ⟨rfl, rfl, rfl, hwc⟩ := hcut
  rw [hwc]
  clear hwc HU HMIN
  go_wp2_with fail
  go_loopg [11, 50] nn (fun g v i wr => ∃ (t : Nat) (S : List (Sl Int)), t + g = nn ∧ i = .int .i64 t ∧ Hid (S.length = t) ∧ Hid (Own wr v2.heap.size 23 1 v (S.map slC)) ∧ Hid (Rows_ wr n v S) ∧ Hid (Below v2.heap.size v2 wr))
  case atStart => exact ⟨0, [], by omega, rfl, Lib.hid rfl, Lib.hid (Own.nil _ _ _ _), Lib.hid (fun s hs => by cases hs), Lib.hid (Below.refl _ _)⟩
  case round =>
    obtain ⟨t, S, ht0, rfl, HSL, HV, HRS, HB⟩ := hrel
    have HJ := Lib.hid ht0
    have ht : t ≤ nn := by omega
    clear ht0
    obtain ⟨wo, hwo⟩ : ∃ wo, wo = wr := ⟨_, rfl⟩
    subst hwo
    by_cases hlt : t < nn
    · obtain ⟨x, hx⟩ : ∃ x, L[t]? = some x := ⟨_, List.getElem?_eq_getElem (by rw [HLN.out]; omega)⟩
      obtain ⟨b1, o1, ha, hbs, c9⟩ := HT0.out.one (below_on HB0.out HB.out) (map_get hx)
      have HWx := Lib.hid (HW2.out x (HO0.out x (List.mem_of_getElem? hx)))
      have d2 := withI_bd x (f : Nat) (by omega)
      generalize withI x (f : Nat) = R at *
      obtain ⟨r, rfl⟩ := Int.eq_ofNat_of_zero_le d2.1
      have hr : r < f := by omega
      have HOr := Lib.hid (HO.out r hr)
      obtain ⟨hol, hok⟩ := HOK.out r hr
      generalize orderOf n r = o at *
      have HOL := Lib.hid (And.intro hol hok)
      have hsB := HB.out.size
      subst ha
      clear hx d2 hol hok
      go_wp2_with fail
      refine (HF.out _).mono ?_
      rintro e v4 ⟨rfl, hv4⟩
      rw [hv4]
      clear hv4
      go_wp2_with fail
      refine (HWx.out _).mono ?_
      rintro e v4 ⟨rfl, hv4⟩
      rw [← hv4]
      clear hv4
      go_wp2_with fail
      refine (HOr.out _).mono ?_
      rintro e v4 ⟨q4, rfl, hO, hb⟩
      obtain ⟨ao, co, rfl, _⟩ := hO.tab
      rw [List.length_map, HOL.out.1] at hO ⊢
      have hgr := goodRow_new HV.out hO HOL.out.1 n1 HOL.out.2
      have HR4 := Lib.hid (((HRS.out.below hb).add hgr).below (show Below v4.heap.size v4 (v4.alloc (.cells #[.slice ao n co] 23)) from (Below.refl _ _).alloc (Nat.le_refl _) _))
      have HV4 := Lib.hid ((HV.out.below hb).alloc (.cells #[.slice ao n co] 23))
      have hs4 : v2.heap.size ≤ v4.heap.size := Nat.le_trans hsB hb.size
      have HB4 := Lib.hid ((HB.out.trans (hb.mono hsB)).alloc hs4 (.cells #[.slice ao n co] 23))
      have hlS : (S.map slC).length ≤ 20 := by rw [List.length_map, HSL.out]; omega
      clear hO hb hgr HWx HOr HOL
      go_wp2_with (at_builtin; refine wpList_append_rows_at _ rfl _ _ 22 rfl v2.heap.size 23 _ 1 24 Try.underlying22 info_slints rfl (by decide) _ (S.map slC) rfl HV4.out ⟨v4.heap.size, 0, none⟩ 1 1 [[.slice ao n co]] rfl rfl (by simp) (one_row v4 [.slice ao n co] 23 _ rfl) (by simp [Value.oneCell']) (by omega) (by decide) (by simp; omega) ?_; intro v6 w6 hO6 hg6 hv6)
      have HO6 : Hid (Own w6 v2.heap.size 23 1 v6 ((S ++ [(⟨ao, n, co, o⟩ : Sl Int)]).map slC)) := Lib.hid (by rw [List.map_append]; exact hO6)
      have HR6 := Lib.hid (HR4.out.grow hg6 hv6)
      have HB6 := Lib.hid (HV4.out.under HB4.out (Nat.le_refl _) (by simp; omega) hg6)
      clear hO6 hg6 hv6 HR4 HB4 HV4
      go_roundg (nn - (t + 1))
      case measure => have := HJ.out; omega
      case rel => exact ⟨t + 1, S ++ [(⟨ao, n, co, o⟩ : Sl Int)], by omega, by go_num, Lib.hid (by rw [List.length_append, HSL.out]; rfl), HO6, HR6, HB6⟩
    · obtain rfl : t = nn := by omega
      obtain ⟨av, cv, rfl, hTv⟩ := HV.out.tab
      rw [List.length_map, HSL.out] at hTv ⊢
      have HTV := Lib.hid hTv
      have HBW := Lib.hid (below_on HB0.out HB.out)
      have HRR : Hid (Rows_ wo n (.slice av t cv) S) := by
        have h9 := HRS
        rw [List.length_map, HSL.out] at h9
        exact h9
      clear hTv HV HB HB0 HF HW2 HO HOK HT0 HO0 HRS
      go_wp2_with fail
      refine (HTA.out _ HBW.out).mono ?_
      rintro e v5 ⟨q5, rfl, hO, hb⟩
      obtain ⟨aA, cA, rfl, hT⟩ := hO.tab
      rw [List.length_map] at hT ⊢
      obtain ⟨nA, hnA⟩ : ∃ u, A.length = u := ⟨_, rfl⟩
      rw [hnA] at hT ⊢
      have HNA := Lib.hid hnA
      have HT5 := Lib.hid hT
      replace HTV := Lib.hid (HTV.out.below hb)
      replace HRR := Lib.hid (HRR.out.below hb)
      replace HBW := Lib.hid (below_on HBW.out hb)
      clear hb hO hT hnA HTA
      go_wp2_with fail
      refine (HTB.out _ HBW.out).mono ?_
      rintro e v6 ⟨q6, rfl, hO, hb⟩
      obtain ⟨aB, cB, rfl, hT⟩ := hO.tab
      rw [List.length_map] at hT ⊢
      obtain ⟨nB, hnB⟩ : ∃ u, B.length = u := ⟨_, rfl⟩
      rw [hnB] at hT ⊢
      have HNB := Lib.hid hnB
      have hbx : Below v6.heap.size v6 (v6.alloc (.cells #[.slice aB nB cB] 23)) := (Below.refl _ _).alloc (Nat.le_refl _) _
      have hbb := below_on hb hbx
      have HT6 := Lib.hid (hT.below hbx)
      replace HTV := Lib.hid (HTV.out.below hbb)
      replace HRR := Lib.hid (HRR.out.below hbb)
      replace HT5 := Lib.hid (HT5.out.below hbb)
      replace HBW := Lib.hid (below_on HBW.out hbb)
      have HX := Lib.hid (MapKept.heap_alloc v6 (.cells #[.slice aB nB cB] 23)).1
      obtain ⟨v7, hv7⟩ : ∃ v, v6.alloc (.cells #[.slice aB nB cB] 23) = v := ⟨_, rfl⟩
      obtain ⟨X, hX⟩ : ∃ X, v6.heap.size = X := ⟨_, rfl⟩
      rw [hv7] at HT6 HTV HRR HT5 HBW HX
      rw [hX] at HX
      have HVX := Lib.hid (And.intro hv7 hX)
      clear hb hO hT hnB HTB hbx hbb hv7 hX
      go_upto_region 15 with fail
      rw [HVX.out.1, HVX.out.2]
      clear HVX
      have k0 : v7.cell? ⟨X, 0, none⟩ = some (.slice aB nB cB) := cell_blk HX.out rfl
      by_cases hA : nA = 0
      · subst hA
        go_wp2_with fail
        go_ret
        exact ⟨rfl, HBW.out⟩
      have tA : ((nA : Int) == 0) = false := by simpa using hA
      by_cases hB : nB = 0
      · subst hB
        clear hA
        go_wp2_with fail
        go_ret
        exact ⟨rfl, HBW.out⟩
      have tB : ((nB : Int) == 0) = false := by simpa using hB
      have hAn : A ≠ [] := fun h => hA (by rw [← HNA.out, h]; rfl)
      have hBn : B ≠ [] := fun h => hB (by rw [← HNB.out, h]; rfl)
      have sA := signs_good HRR.out n2 (by rw [HSL.out]; exact hnn2) HAB.out.1 hAn
      have sB := signs_good HRR.out n2 (by rw [HSL.out]; exact hnn2) HAB.out.2 hBn
      have C1 := sign_any av aA t cv nA cA S A v7 HTV.out (fun s hs => (HRR.out s hs).tab) HT5.out
      have C2 := fun W (hb : Below v7.heap.size v7 W) => sign_any av aB t cv nB cB S B W (HTV.out.below hb) (fun s hs => ((HRR.out s hs).tab).below hb) (HT6.out.below hb)
      rw [sA, show signR (S.map (·.l)) A = signL (S.map (·.l)) A from if_pos sA] at C1
      rw [sB, show signR (S.map (·.l)) B = signL (S.map (·.l)) B from if_pos sB] at C2
      have HAP := Lib.hid (signs_apart (S := S) hAn hBn)
      rw [HSL.out] at HAP
      have lA : (signL (S.map (·.l)) A).length = t := by rw [signL_len, List.length_map]; exact HSL.out
      have lB : (signL (S.map (·.l)) B).length = t := by rw [signL_len, List.length_map]; exact HSL.out
      have HLL := Lib.hid (And.intro lA lB)
      generalize signL (S.map (·.l)) A = P at *
      generalize signL (S.map (·.l)) B = Q at *
      replace C1 := Lib.hid C1
      replace C2 := Lib.hid C2
      clear hA hB hAn hBn sA sB lA lB
      go_wp2_with fail
      clear k0
      refine C1.out.mono ?_
      rintro e v8 ⟨q8, rfl, hO, hb⟩
      obtain ⟨aP, cP, rfl, hT⟩ := hO.tab
      rw [List.length_map, HLL.out.1] at hT ⊢
      have HTP := Lib.hid hT
      have HC2 := Lib.hid (C2.out v8 hb)
      have HB8 := Lib.hid hb
      have k0 : v8.cell? ⟨X, 0, none⟩ = some (.slice aB nB cB) := cell_blk ((hb.block X (Array.getElem?_eq_some_iff.1 HX.out).1).trans HX.out) rfl
      clear hO hT hb C1 C2
      go_wp2_with fail
      clear k0
      refine HC2.out.mono ?_
      rintro e v9 ⟨q9, rfl, hO, hb⟩
      obtain ⟨aQ, cQ, rfl, hT⟩ := hO.tab
      rw [List.length_map, HLL.out.2] at hT ⊢
      have HTQ := Lib.hid hT
      replace HTP := Lib.hid (HTP.out.below hb)
      have HB9 := Lib.hid (below_on HB8.out hb)
      clear hO hT hb HC2 HB8
      have sE : sameE t t = 0 := by unfold sameE; rw [if_neg (by omega), if_neg (by simp)]
      have S1 := same_any aP aP t cP t cP P P v9 HTP.out HTP.out
      have S2 := same_any aP aQ t cP t cQ P Q v9 HTP.out HTQ.out
      have S3 := same_any aQ aP t cQ t cP Q P v9 HTQ.out HTP.out
      rw [sE, if_pos rfl, sameTo_self] at S1
      rw [sE, if_pos rfl] at S2 S3
      rw [sameTo_comm Q P] at S3
      have hcl := sameTo_le P Q t
      generalize sameTo P Q t = c at *
      replace S1 := Lib.hid S1
      replace S2 := Lib.hid S2
      replace S3 := Lib.hid S3
      clear sE
      go_wp2_with fail
      refine S1.out.mono ?_
      rintro e v10 ⟨rfl, hv⟩
      rw [← hv]
      clear hv S1
      go_wp2_with fail
      refine S2.out.mono ?_
      rintro e v10 ⟨rfl, hv⟩
      rw [← hv]
      clear hv S2
      go_wp2_with fail
      refine S3.out.mono ?_
      rintro e v10 ⟨rfl, hv⟩
      rw [← hv]
      clear hv S3
      have C5 := containsFunc_any 35 (some ⟨X, 0, none⟩) (fun z => decide (z ∈ B)) aA nA cA A v9 (HT5.out.below HB9.out) (fun _ _ => rfl) (fun z _ W hb => by
        have hbw := below_on HB9.out hb
        refine signsClo_any aB nB cB B X z W (HT6.out.below hbw) ?_
        exact cell_blk ((hbw.block X (Array.getElem?_eq_some_iff.1 HX.out).1).trans HX.out) rfl)
      have HBF := Lib.hid (below_on HBW.out HB9.out)
      replace C5 := Lib.hid C5
      have HAP2 := HAP
      generalize A.any (fun z => decide (z ∈ B)) = p at *
      clear HAP HTV HRR HT5 HT6 HX HB9 HBW HTP HTQ
      go_wp2_with fail
      refine C5.out.mono ?_
      rintro e v11 ⟨rfl, hb⟩
      have HBG := Lib.hid (below_on HBF.out hb)
      have t1 : ((t : Int) == (t : Int)) = true := by simp
      have t2 : ((c : Int) == (c : Int)) = true := by simp
      clear hb C5 HBF
      cases p
      · have hc0 := HAP2.out rfl
        subst hc0
        clear HAP2
        go_wp2_with fail
        go_ret
        exact ⟨rfl, HBG.out⟩
      · clear HAP2
        go_wp2_with fail
        go_ret
        exact ⟨rfl, HBG.out⟩

set_option maxRecDepth 100000 in
theorem lifted (os : Os) (started : os.Started) (H : Type) (enc : TypeId × Value → H) :
    ReturnsInHanded {} Try.checked os 9 .any (Rows.alikeSignsSpec.pre6 enc Try.prog Try.f9 Rows.alikeSignsRow.domain false) (Rows.alikeSignsSpec.post enc Try.prog Try.f9 false true false false) := by
  refine returnsInHanded_of_change_sized (C := Try.checked) own started (by kernel_rfl) Try.func9
    (ChangeSpec.witness6 (enc := enc) (C := Try.checked) false ⟨#[], #[.slice none 0 0, .slice none 0 0, .slice none 0 0, .int .i64 0], []⟩ 8 (by kernel_rfl) (by kernel_rfl) (by kernel_rfl) (by kernel_rfl)) ?_
  intro W base args ds gs before hval0 hW hcnd hsz0 _
  have hval : ∀ (j : Nat) t v, Try.f9.params[j]? = some t → args[j]? = some v → Value.okWide Try.prog W .any base t v := hval0
  have hW' := hW
  obtain ⟨p, q, hA0, hV, rfl, hfz, hnd⟩ := hW
  have hA : DataW.TrodAll enc Try.prog W 0 (fun _ => true) true Try.f9.params.toList args.toList ds p := hA0
  have hsz : (DataW.weightsEach Try.prog (Try.f9.params.toList ++ Rows.alikeSignsSpec.plain.varTypes Try.prog) (ds ++ gs)).all (· ≤ reachBytes) = true := hsz0
  rw [Try.params9] at hA hval hsz
  obtain ⟨v0, vs0, d0, ds0, p0, q0, hargs, rfl, rfl, h0, r0⟩ := trodAll_cons hA
  obtain ⟨v1, vs1, d1, ds1, p1, q1, rfl, rfl, rfl, h1, r1⟩ := trodAll_cons r0
  obtain ⟨v2, vs2, d2, ds2, p2, q2, rfl, rfl, rfl, h2, r2⟩ := trodAll_cons r1
  obtain ⟨v3, vs3, d3, ds3, p3, q3, rfl, rfl, rfl, h3, r3⟩ := trodAll_cons r2
  obtain ⟨rfl, rfl, rfl⟩ := trodAll_nil r3
  obtain rfl : args = #[v0, v1, v2, v3] := by cases args; simp_all
  obtain ⟨rfl, rfl⟩ := trodVars_none hV
  have k0 := h0
  have L0 := light_of hsz (j := 0) (t := 23) (d := d0) rfl rfl
  have lt0 : ∀ x ∈ p0, x.block < W.heap.size := by obtain ⟨m, hm⟩ := k0; exact DataW.trod_lt m _ _ _ hm
  obtain ⟨a0, len0, cap0, rfl⟩ := okWide_slice Try.underlying23 (hval 0 23 v0 rfl rfl)
  obtain ⟨n0, f0⟩ := trod_slice_of Try.underlying23 h0
  have F0 := And.intro f0 L0
  obtain ⟨x0, e0, t0, b0, o0⟩ := el_slice (w := W) (k := 1) iC wfI (by decide) Try.underlying23 (by kernel_rfl) (el_int Try.underlying3) (B := 8) (by kernel_rfl) _ _ _ F0.1 F0.2
  simp only [slC, List.cons.injEq, Value.slice.injEq, and_true] at e0
  obtain ⟨rfl, rfl, rfl⟩ := e0
  have k1 := h1
  have L1 := light_of hsz (j := 1) (t := 23) (d := d1) rfl rfl
  have lt1 : ∀ x ∈ p1, x.block < W.heap.size := by obtain ⟨m, hm⟩ := k1; exact DataW.trod_lt m _ _ _ hm
  obtain ⟨a1, len1, cap1, rfl⟩ := okWide_slice Try.underlying23 (hval 1 23 v1 rfl rfl)
  obtain ⟨n1, f1⟩ := trod_slice_of Try.underlying23 h1
  have F1 := And.intro f1 L1
  obtain ⟨x1, e1, t1, b1, o1⟩ := el_slice (w := W) (k := 1) iC wfI (by decide) Try.underlying23 (by kernel_rfl) (el_int Try.underlying3) (B := 8) (by kernel_rfl) _ _ _ F1.1 F1.2
  simp only [slC, List.cons.injEq, Value.slice.injEq, and_true] at e1
  obtain ⟨rfl, rfl, rfl⟩ := e1
  have k2 := h2
  have L2 := light_of hsz (j := 2) (t := 23) (d := d2) rfl rfl
  have lt2 : ∀ x ∈ p2, x.block < W.heap.size := by obtain ⟨m, hm⟩ := k2; exact DataW.trod_lt m _ _ _ hm
  obtain ⟨a2, len2, cap2, rfl⟩ := okWide_slice Try.underlying23 (hval 2 23 v2 rfl rfl)
  obtain ⟨n2, f2⟩ := trod_slice_of Try.underlying23 h2
  have F2 := And.intro f2 L2
  obtain ⟨x2, e2, t2, b2, o2⟩ := el_slice (w := W) (k := 1) iC wfI (by decide) Try.underlying23 (by kernel_rfl) (el_int Try.underlying3) (B := 8) (by kernel_rfl) _ _ _ F2.1 F2.2
  simp only [slC, List.cons.injEq, Value.slice.injEq, and_true] at e2
  obtain ⟨rfl, rfl, rfl⟩ := e2
  have k3 := h3
  have L3 := light_of hsz (j := 3) (t := 3) (d := d3) rfl rfl
  have lt3 : ∀ x ∈ p3, x.block < W.heap.size := by obtain ⟨m, hm⟩ := k3; exact DataW.trod_lt m _ _ _ hm
  obtain ⟨x3, rfl, rfl, rfl, w3⟩ := open_int Try.underlying3 (hval 3 3 v3 rfl rfl) h3
  clear hA0 hval0
  refine (walk x0 x1 x2 x3 W t0 b0 o0 t1 b1 o1 t2 b2 o2 w3).mono fun e W' ⟨he, hg⟩ => ?_
  subst he
  exact ⟨_, rfl, _, _, _, [], _, [], hW', trodAll_mk1 (shut_bool Try.underlying4 _), (trodAll_cons_mk (Below.trod laidOut (by kernel_rfl) (of_decide_eq_true (by kernel_rfl)) k0 hg lt0) (trodAll_cons_mk (Below.trod laidOut (by kernel_rfl) (of_decide_eq_true (by kernel_rfl)) k1 hg lt1) (trodAll_cons_mk (Below.trod laidOut (by kernel_rfl) (of_decide_eq_true (by kernel_rfl)) k2 hg lt2) (trodAll_cons_mk (Below.trod laidOut (by kernel_rfl) (of_decide_eq_true (by kernel_rfl)) k3 hg lt3) trodAll_mk0)))), rfl, hg.frame _, fun h => by cases h⟩

theorem over : Rows.alikeSignsRow.holds Try.pinned (OpenSpec.ofChange Rows.alikeSignsSpec) :=
  OpenClaim.holds_of_wide 9 Try.f9 rfl rfl rfl rfl rfl rfl rfl ⟨rfl, rfl, rfl, rfl, rfl⟩ rfl rfl rfl rfl rfl (by kernel_rfl) Try.func9 (by kernel_rfl)
    (of_decide_eq_true (by kernel_rfl)) (by unfold Func.isWrapper; first | (rw [if_pos (by decide +kernel)]; kernel_rfl) | (rw [if_neg (by decide +kernel)]; exact ⟨rfl, rfl⟩))
    (fun os started H enc _ => lifted os started H enc)

/-- ████ THE STATEMENT ████ -/
theorem proved : Rows.AlikeSignsSaid :=
  over
#print axioms proved
end Go.Proofs.Ytoijeafhohcbdaa.alikeSigns
