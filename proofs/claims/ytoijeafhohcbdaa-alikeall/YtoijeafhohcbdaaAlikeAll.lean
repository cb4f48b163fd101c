/-
  'Rows.AlikeAllSaid' is proved: over all orders two sets have the same first thing as often as their common things go into all of theirs. No condition.
-/
import Derived.Test.YtoijeafhohcbdaaRows
import Derived.Test.YtoijeafhohcbdaaShapes
import Derived.Test.YtoijeafhohcbdaaBroderMath
import Derived.Test.YtoijeafhohcbdaaAlikeFirst
import Derived.Test.YtoijeafhohcbdaaRefFact
import Derived.Test.YtoijeafhohcbdaaDigitOrder
import Derived.Test.YtoijeafhohcbdaaLit
import Derived.Deep.DeepCutAuto
import Derived.WalkKit
import Derived.ProofKit
import Derived.OpenShut
import Derived.ShutString
import Derived.ChangeOld
import Derived.Below
namespace Go.Proofs.Ytoijeafhohcbdaa.alikeAll
open Go.ChangeShapes Go.WideShapes Go.ChangeAt Go.RowKit
open Go.ChangeMaps (open_string shut_string)
set_option linter.unusedVariables false

theorem own : ownKnob Try.prog.godebug = none := by kernel_rfl
theorem laidOut : laidOutB Try.prog = true := by kernel_rfl

open Alk Digit Broder
theorem lit_all : firstR [2, 0, 1] [0, 2] = 2 ∧ firstE [2, 0, 1] [0, 2] = 0 := by decide +kernel

set_option maxRecDepth 100000 in
set_option maxHeartbeats 2000000 in
theorem walk (x0 : Sl Int) (x1 : Sl Int) (x2 : Int) (w : World) (t0 : Tab w x0.a x0.len x0.cap 1 (x0.l.map iC)) (b0 : x0.len * 8 ≤ 140737488351232) (o0 : ∀ z ∈ x0.l, wfI z) (t1 : Tab w x1.a x1.len x1.cap 1 (x1.l.map iC)) (b1 : x1.len * 8 ≤ 140737488351232) (o1 : ∀ z ∈ x1.l, wfI z) (w2 : (Lit.int .i64 x2).wf = true) :
    Calls Try.prog 5 #[.slice x0.a x0.len x0.cap, .slice x1.a x1.len x1.cap, .int .i64 x2] w fun e w' => e = .returned (.bool true) ∧ Below w.heap.size w w' := by
  obtain ⟨a, len, cap, l⟩ := x0
  obtain ⟨b, len2, cap2, m⟩ := x1
  have hT1 : Tab w a len cap 1 (l.map iC) := t0
  have hT2 : Tab w b len2 cap2 1 (m.map iC) := t1
  have hO1 : ∀ z ∈ l, wfI z := o0
  have hO2 : ∀ z ∈ m, wfI z := o1
  have c3 := wf_i64 w2
  clear t0 t1 o0 o1 b0 b1 w2
  have hbl : Below w.heap.size w ((w.alloc (.cells #[.int .i64 2, .int .i64 0, .int .i64 1] 3)).alloc (.cells #[.int .i64 0, .int .i64 2] 3)) := ((Below.refl _ _).alloc (Nat.le_refl _) _).alloc (by simp) _
  have hba : Below (w.alloc (.cells #[.int .i64 2, .int .i64 0, .int .i64 1] 3)).heap.size (w.alloc (.cells #[.int .i64 2, .int .i64 0, .int .i64 1] 3)) ((w.alloc (.cells #[.int .i64 2, .int .i64 0, .int .i64 1] 3)).alloc (.cells #[.int .i64 0, .int .i64 2] 3)) := (Below.refl _ _).alloc (Nat.le_refl _) _
  have CL := first_any (some ⟨w.heap.size, 0, none⟩) (some ⟨w.heap.size + 1, 0, none⟩) 3 3 2 2 [2, 0, 1] [0, 2] _ ((tab_lit w 3 1 3 ([(2 : Int), 0, 1].map iC) #[.int .i64 2, .int .i64 0, .int .i64 1] rfl rfl (rows_of iC_len _) (by decide) _ rfl).below hba) (tab_lit (w.alloc (.cells #[.int .i64 2, .int .i64 0, .int .i64 1] 3)) 3 1 2 ([(0 : Int), 2].map iC) #[.int .i64 0, .int .i64 2] rfl rfl (rows_of iC_len _) (by decide) _ (by simp))
  rw [lit_all.1, lit_all.2] at CL
  replace CL := Lib.hid CL
  have HB0 := Lib.hid hbl
  have HW1 := Lib.hid (fun W => within_int x2 5 W c3 (by omega) (by omega))
  have d1 := withI_bd x2 5 (by omega)
  generalize withI x2 5 = K at *
  obtain ⟨n, hn⟩ := Int.eq_ofNat_of_zero_le (show 0 ≤ 1 + K by omega)
  have n1 : 1 ≤ n := by omega
  have n2 : n ≤ 5 := by omega
  have hK0 := d1.1
  have hK1 := d1.2
  have HN := Lib.hid hn
  have hf1 : fact n ≤ 120 := Nat.le_trans (fact_le n2) (by decide)
  have HF := Lib.hid (fun W => refFact_any n (by omega) W)
  have HO := Lib.hid (fun r (hr : r < fact n) W => order_ok n r (by omega) hr W)
  have HOK := Lib.hid (fun r (hr : r < fact n) => orderOf_ok hr)
  have HTA := Lib.hid (fun W (hb : Below w.heap.size w W) => things_any a len cap l n W (hT1.below hb) hO1 n1 (by omega))
  have HTB := Lib.hid (fun W (hb : Below w.heap.size w W) => things_any b len2 cap2 m n W (hT2.below hb) hO2 n1 (by omega))
  have HBR := Lib.hid (fun (h1 : thingsL l n ≠ []) (h2 : thingsL m n ≠ []) => broder n2 h1 h2)
  have HGA : Hid (∀ r, r < fact n → thingsL l n ≠ [] → firstE (orderOf n r) (thingsL l n) = 0) := Lib.hid (fun r hr h => things_good (orderOf_ok hr).1 (by omega) (orderOf_ok hr).2 h)
  have HGB : Hid (∀ r, r < fact n → thingsL m n ≠ [] → firstE (orderOf n r) (thingsL m n) = 0) := Lib.hid (fun r hr h => things_good (orderOf_ok hr).1 (by omega) (orderOf_ok hr).2 h)
  have hlA : (thingsL l n).length ≤ 5 := Nat.le_trans (thingsL_len l n) n2
  have hlB : (thingsL m n).length ≤ 5 := Nat.le_trans (thingsL_len m n) n2
  generalize thingsL l n = A at *
  generalize thingsL m n = B at *
  obtain ⟨nA, hnA⟩ : ∃ u, A.length = u := ⟨_, rfl⟩
  obtain ⟨nB, hnB⟩ : ∃ u, B.length = u := ⟨_, rfl⟩
  rw [hnA, hnB] at HBR
  have HNA := Lib.hid (And.intro hnA hnB)
  have hnA5 : nA ≤ 5 := by omega
  have hnB5 : nB ≤ 5 := by omega
  obtain ⟨f, hf⟩ : ∃ f, fact n = f := ⟨_, rfl⟩
  rw [hf] at HF HO HOK HBR HGA HGB hf1
  clear hbl hba c3 d1 hn hT1 hT2 hO1 hO2 hlA hlB hnA hnB hf
  go_enter Try.func5, Try.ntmps5
  go_wp2_with fail
  refine CL.out.mono ?_
  rintro e v1 ⟨rfl, hb⟩
  have HB1 := Lib.hid (below_on HB0.out hb)
  clear hb CL HB0
  go_wp2_with fail
  refine (HW1.out _).mono ?_
  rintro e v3 ⟨rfl, hv3⟩
  rw [← hv3]
  clear hv3 HW1
  go_upto_region 5 with fail
  rw [HN.out]
  clear HN
  go_wp2_with fail
  refine (HTA.out _ HB1.out).mono ?_
  rintro e v5 ⟨q5, rfl, hO, hb⟩
  obtain ⟨aA, cA, rfl, hT⟩ := hO.tab
  rw [List.length_map, HNA.out.1] at hT ⊢
  have HT5 := Lib.hid hT
  have HB5 := Lib.hid (below_on HB1.out hb)
  clear hb hO hT HTA HB1
  go_wp2_with fail
  refine (HTB.out _ HB5.out).mono ?_
  rintro e v6 ⟨q6, rfl, hO, hb⟩
  obtain ⟨aB, cB, rfl, hT⟩ := hO.tab
  rw [List.length_map, HNA.out.2] at hT ⊢
  have HT6 := Lib.hid hT
  have HB6 := Lib.hid (below_on HB5.out hb)
  replace HT5 := Lib.hid (HT5.out.below hb)
  clear hb hO hT HTB HB5
  by_cases hA : nA = 0
  · subst hA
    go_wp2_with fail
    go_ret
    exact ⟨rfl, HB6.out⟩
  have tA : ((nA : Int) == 0) = false := by simpa using hA
  by_cases hB : nB = 0
  · subst hB
    clear hA
    go_wp2_with fail
    go_ret
    exact ⟨rfl, HB6.out⟩
  have tB : ((nB : Int) == 0) = false := by simpa using hB
  have hAn : A ≠ [] := fun h => hA (by rw [← HNA.out.1, h]; rfl)
  have hBn : B ≠ [] := fun h => hB (by rw [← HNA.out.2, h]; rfl)
  have HBM := Lib.hid (HBR.out hAn hBn)
  have HGA2 := Lib.hid (fun r hr => HGA.out r hr hAn)
  have HGB2 := Lib.hid (fun r hr => HGB.out r hr hBn)
  clear hA hB hAn hBn HBR HGA HGB
  go_wp2_with fail
  go_loopg [11, 12, 56] nA (fun g u v i wr => ∃ k : Nat, k + g = nA ∧ i = .int .i64 k ∧ u = .int .i64 (inB A B k : Nat) ∧ v = .int .i64 ((nB : Int) + (outB A B k : Nat)) ∧ wr = v6)
  case atStart => exact ⟨0, by omega, rfl, rfl, by rw [show outB A B 0 = 0 from rfl]; simp, rfl⟩
  case round =>
    obtain ⟨k, hk0, rfl, rfl, rfl, rfl⟩ := hrel
    have HJ := Lib.hid hk0
    have hk : k ≤ nA := by omega
    clear hk0
    have hle := inB_le A B k
    rw [HNA.out.1] at hle
    by_cases hlt : k < nA
    · obtain ⟨x, hx⟩ : ∃ x, A[k]? = some x := ⟨_, List.getElem?_eq_getElem (by rw [HNA.out.1]; exact hlt)⟩
      obtain ⟨b1, o1, ha, hbs, c9⟩ := HT5.out.one (Below.refl _ _) (map_get hx)
      have HS := Lib.hid (inB_succ (B := B) hx)
      have D := contains_ints aB nB cB B x wr HT6.out (decide (x ∈ B)) (by simp)
      generalize inB A B k = p at *
      generalize outB A B k = r at *
      subst ha
      clear hx
      by_cases hin : x ∈ B
      · rw [if_pos hin, if_pos hin] at HS
        rw [decide_eq_true hin] at D
        replace D := Lib.hid D
        clear hin
        go_wp2_with fail
        refine D.out.mono ?_
        rintro e v7 ⟨rfl, hv⟩
        rw [← hv]
        clear hv D
        go_wp2_with fail
        go_roundg (nA - (k + 1))
        case measure => have := HJ.out; omega
        case rel => exact ⟨k + 1, by omega, by go_num, by rw [HS.out.1]; go_num, by rw [HS.out.2]; rfl, rfl⟩
      · rw [if_neg hin, if_neg hin] at HS
        rw [decide_eq_false hin] at D
        replace D := Lib.hid D
        clear hin
        go_wp2_with fail
        refine D.out.mono ?_
        rintro e v7 ⟨rfl, hv⟩
        rw [← hv]
        clear hv D
        go_wp2_with fail
        go_roundg (nA - (k + 1))
        case measure => have := HJ.out; omega
        case rel => exact ⟨k + 1, by omega, by go_num, by rw [HS.out.1]; rfl, by rw [HS.out.2]; first | go_num | (congr 1; omega), rfl⟩
    · obtain rfl : k = nA := by omega
      clear hlt HJ
      have HLE := Lib.hid hle
      have HBM2 := HBM
      generalize inB A B k = p at *
      generalize outB A B k = r at *
      have hp5 : p ≤ 5 := by omega
      have hr5 : r ≤ 5 := by omega
      clear hle HBM
      obtain ⟨wl, hwl⟩ : ∃ wl, wl = wr := ⟨_, rfl⟩
      subst hwl
      go_wp2_with fail
      refine (HF.out _).mono ?_
      rintro e v7 ⟨rfl, hv⟩
      rw [hv]
      clear hv
      go_wp2_with fail
      go_loopg [15, 70] f (fun g u i wr => ∃ t : Nat, t + g = f ∧ i = .int .i64 t ∧ u = .int .i64 (cntS n A B t : Nat) ∧ Hid (Below wl.heap.size wl wr))
      case atStart => exact ⟨0, by omega, rfl, rfl, Lib.hid (Below.refl _ _)⟩
      case round =>
        obtain ⟨t, ht0, rfl, rfl, HB⟩ := hrel
        have HJ := Lib.hid ht0
        have ht : t ≤ f := by omega
        clear ht0
        have hcl := cntS_le n A B t
        obtain ⟨wo, hwo⟩ : ∃ wo, wo = wr := ⟨_, rfl⟩
        subst hwo
        by_cases hlt : t < f
        · have HOr := Lib.hid (HO.out t hlt)
          obtain ⟨hol, hok⟩ := HOK.out t hlt
          have gA := HGA2.out t hlt
          have gB := HGB2.out t hlt
          have HS := Lib.hid (cntS_succ n A B t)
          generalize cntS n A B t = c at *
          generalize orderOf n t = o at *
          have C1 := fun W (ao : Option Addr) (co : Nat) (h1 : Tab W ao n co 1 (o.map iC)) (h2 : Tab W aA k cA 1 (A.map iC)) => first_any ao aA n co k cA o A W h1 h2
          have C2 := fun W (ao : Option Addr) (co : Nat) (h1 : Tab W ao n co 1 (o.map iC)) (h2 : Tab W aB nB cB 1 (B.map iC)) => first_any ao aB n co nB cB o B W h1 h2
          rw [show firstR o A = firstV o A from if_pos gA, gA] at C1
          rw [show firstR o B = firstV o B from if_pos gB, gB] at C2
          replace C1 := Lib.hid C1
          replace C2 := Lib.hid C2
          generalize firstV o A = y at *
          generalize firstV o B = z at *
          have HOL := Lib.hid hol
          clear hok gA gB hol
          go_wp2_with fail
          refine (HOr.out _).mono ?_
          rintro e v8 ⟨q8, rfl, hO, hb⟩
          obtain ⟨ao, co, rfl, hT⟩ := hO.tab
          rw [List.length_map, HOL.out] at hT ⊢
          have HTO := Lib.hid hT
          have HB8 := Lib.hid (below_on HB.out hb)
          clear hO hT hb HOr HOL
          go_wp2_with fail
          refine (C1.out _ _ _ HTO.out (HT5.out.below HB8.out)).mono ?_
          rintro e v9 ⟨rfl, hb⟩
          replace HTO := Lib.hid (HTO.out.below hb)
          have HB9 := Lib.hid (below_on HB8.out hb)
          clear hb C1 HB8
          go_wp2_with fail
          refine (C2.out _ _ _ HTO.out (HT6.out.below HB9.out)).mono ?_
          rintro e v10 ⟨rfl, hb⟩
          have HB10 := Lib.hid (below_on HB9.out hb)
          clear hb C2 HB9 HTO
          by_cases hyz : y = z
          · subst hyz
            rw [if_pos rfl] at HS
            have t2 : (y == y) = true := by simp
            go_wp2_with fail
            go_roundg (f - (t + 1))
            case measure => have := HJ.out; omega
            case rel => exact ⟨t + 1, by omega, by go_num, by rw [HS.out]; go_num, HB10⟩
          · rw [if_neg hyz] at HS
            have t2 : (y == z) = false := by simpa using hyz
            clear hyz
            go_wp2_with fail
            go_roundg (f - (t + 1))
            case measure => have := HJ.out; omega
            case rel => exact ⟨t + 1, by omega, by go_num, by rw [HS.out]; rfl, HB10⟩
        · obtain rfl : t = f := by omega
          have HBW := Lib.hid (below_on HB6.out HB.out)
          have hBM := HBM2.out
          generalize cntS n A B t = c at *
          have e1 : (c : Int) * ((nB : Int) + (r : Int)) = (t : Int) * (p : Int) := by
            have h9 : ((c * (nB + r) : Nat) : Int) = ((t * p : Nat) : Int) := by rw [hBM]
            rw [Int.natCast_mul, Int.natCast_mul, Int.natCast_add] at h9
            exact h9
          have m1 : (t : Int) * (p : Int) ≤ 600 := by
            have h9 : t * p ≤ 120 * 5 := Nat.mul_le_mul hf1 hp5
            have h10 : ((t * p : Nat) : Int) ≤ 600 := by omega
            rw [Int.natCast_mul] at h10
            exact h10
          have m0 : 0 ≤ (t : Int) * (p : Int) := by
            have h10 : 0 ≤ ((t * p : Nat) : Int) := by omega
            rw [Int.natCast_mul] at h10
            exact h10
          obtain ⟨U, hU⟩ : ∃ U, (t : Int) * (p : Int) = U := ⟨_, rfl⟩
          rw [hU] at e1 m0 m1
          have t3 : (U == U) = true := by simp
          clear hBM HBM2 HB HB6 HGA2 HGB2 HO HOK HT5 HT6
          go_wp2_with fail
          refine (HF.out _).mono ?_
          rintro e v7 ⟨rfl, hv⟩
          rw [hv]
          clear hv
          go_wp2_with fail
          go_ret
          exact ⟨by simp [e1, hU], HBW.out⟩

set_option maxRecDepth 100000 in
theorem lifted (os : Os) (started : os.Started) (H : Type) (enc : TypeId × Value → H) :
    ReturnsInHanded {} Try.checked os 5 .any (Rows.alikeAllSpec.pre6 enc Try.prog Try.f5 Rows.alikeAllRow.domain false) (Rows.alikeAllSpec.post enc Try.prog Try.f5 false true false false) := by
  refine returnsInHanded_of_change_sized (C := Try.checked) own started (by kernel_rfl) Try.func5
    (ChangeSpec.witness6 (enc := enc) (C := Try.checked) false ⟨#[], #[.slice none 0 0, .slice none 0 0, .int .i64 0], []⟩ 8 (by kernel_rfl) (by kernel_rfl) (by kernel_rfl) (by kernel_rfl)) ?_
  intro W base args ds gs before hval0 hW hcnd hsz0 _
  have hval : ∀ (j : Nat) t v, Try.f5.params[j]? = some t → args[j]? = some v → Value.okWide Try.prog W .any base t v := hval0
  have hW' := hW
  obtain ⟨p, q, hA0, hV, rfl, hfz, hnd⟩ := hW
  have hA : DataW.TrodAll enc Try.prog W 0 (fun _ => true) true Try.f5.params.toList args.toList ds p := hA0
  have hsz : (DataW.weightsEach Try.prog (Try.f5.params.toList ++ Rows.alikeAllSpec.plain.varTypes Try.prog) (ds ++ gs)).all (· ≤ reachBytes) = true := hsz0
  rw [Try.params5] at hA hval hsz
  obtain ⟨v0, vs0, d0, ds0, p0, q0, hargs, rfl, rfl, h0, r0⟩ := trodAll_cons hA
  obtain ⟨v1, vs1, d1, ds1, p1, q1, rfl, rfl, rfl, h1, r1⟩ := trodAll_cons r0
  obtain ⟨v2, vs2, d2, ds2, p2, q2, rfl, rfl, rfl, h2, r2⟩ := trodAll_cons r1
  obtain ⟨rfl, rfl, rfl⟩ := trodAll_nil r2
  obtain rfl : args = #[v0, v1, v2] := by cases args; simp_all
  obtain ⟨rfl, rfl⟩ := trodVars_none hV
  have k0 := h0
  have L0 := light_of hsz (j := 0) (t := 23) (d := d0) rfl rfl
  have lt0 : ∀ x ∈ p0, x.block < W.heap.size := by obtain ⟨m, hm⟩ := k0; exact DataW.trod_lt m _ _ _ hm
  obtain ⟨a0, len0, cap0, rfl⟩ := okWide_slice Try.underlying23 (hval 0 23 v0 rfl rfl)
  obtain ⟨n0, f0⟩ := trod_slice_of Try.underlying23 h0
  have F0 := And.intro f0 L0
  obtain ⟨x0, e0, t0, b0, o0⟩ := el_slice (w := W) (k := 1) iC wfI (by decide) Try.underlying23 (by kernel_rfl) (el_int Try.underlying3) (B := 8) (by kernel_rfl) _ _ _ F0.1 F0.2
  simp only [slC, List.cons.injEq, Value.slice.injEq, and_true] at e0
  obtain ⟨rfl, rfl, rfl⟩ := e0
  have k1 := h1
  have L1 := light_of hsz (j := 1) (t := 23) (d := d1) rfl rfl
  have lt1 : ∀ x ∈ p1, x.block < W.heap.size := by obtain ⟨m, hm⟩ := k1; exact DataW.trod_lt m _ _ _ hm
  obtain ⟨a1, len1, cap1, rfl⟩ := okWide_slice Try.underlying23 (hval 1 23 v1 rfl rfl)
  obtain ⟨n1, f1⟩ := trod_slice_of Try.underlying23 h1
  have F1 := And.intro f1 L1
  obtain ⟨x1, e1, t1, b1, o1⟩ := el_slice (w := W) (k := 1) iC wfI (by decide) Try.underlying23 (by kernel_rfl) (el_int Try.underlying3) (B := 8) (by kernel_rfl) _ _ _ F1.1 F1.2
  simp only [slC, List.cons.injEq, Value.slice.injEq, and_true] at e1
  obtain ⟨rfl, rfl, rfl⟩ := e1
  have k2 := h2
  have L2 := light_of hsz (j := 2) (t := 3) (d := d2) rfl rfl
  have lt2 : ∀ x ∈ p2, x.block < W.heap.size := by obtain ⟨m, hm⟩ := k2; exact DataW.trod_lt m _ _ _ hm
  obtain ⟨x2, rfl, rfl, rfl, w2⟩ := open_int Try.underlying3 (hval 2 3 v2 rfl rfl) h2
  clear hA0 hval0
  refine (walk x0 x1 x2 W t0 b0 o0 t1 b1 o1 w2).mono fun e W' ⟨he, hg⟩ => ?_
  subst he
  exact ⟨_, rfl, _, _, _, [], _, [], hW', trodAll_mk1 (shut_bool Try.underlying4 _), (trodAll_cons_mk (Below.trod laidOut (by kernel_rfl) (of_decide_eq_true (by kernel_rfl)) k0 hg lt0) (trodAll_cons_mk (Below.trod laidOut (by kernel_rfl) (of_decide_eq_true (by kernel_rfl)) k1 hg lt1) (trodAll_cons_mk (Below.trod laidOut (by kernel_rfl) (of_decide_eq_true (by kernel_rfl)) k2 hg lt2) trodAll_mk0))), rfl, hg.frame _, fun h => by cases h⟩

theorem over : Rows.alikeAllRow.holds Try.pinned (OpenSpec.ofChange Rows.alikeAllSpec) :=
  OpenClaim.holds_of_wide 5 Try.f5 rfl rfl rfl rfl rfl rfl rfl ⟨rfl, rfl, rfl, rfl, rfl⟩ rfl rfl rfl rfl rfl (by kernel_rfl) Try.func5 (by kernel_rfl)
    (of_decide_eq_true (by kernel_rfl)) (by unfold Func.isWrapper; first | (rw [if_pos (by decide +kernel)]; kernel_rfl) | (rw [if_neg (by decide +kernel)]; exact ⟨rfl, rfl⟩))
    (fun os started H enc _ => lifted os started H enc)

/-- ████ THE STATEMENT ████ -/
theorem proved : Rows.AlikeAllSaid :=
  over
#print axioms proved
end Go.Proofs.Ytoijeafhohcbdaa.alikeAll
