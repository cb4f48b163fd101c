/-
  'Rows.AlikeJoinSaid' is proved: what is first of two sets together is first of one of them, and of each one that has it. No condition.
-/
import Derived.Test.YtoijeafhohcbdaaRows
import Derived.Test.YtoijeafhohcbdaaShapes
import Derived.Test.YtoijeafhohcbdaaThingsMath
import Derived.Test.YtoijeafhohcbdaaAlikeFirst
import Derived.Test.YtoijeafhohcbdaaRefFact
import Derived.Test.YtoijeafhohcbdaaDigitOrder
import Derived.Test.YtoijeafhohcbdaaConcatInts
import Derived.Test.YtoijeafhohcbdaaLit
import Derived.Deep.DeepCutAuto
import Derived.WalkKit
import Derived.ProofKit
import Derived.OpenShut
import Derived.ShutString
import Derived.ChangeOld
import Derived.Below
namespace Go.Proofs.Ytoijeafhohcbdaa.alikeJoin
open Go.ChangeShapes Go.WideShapes Go.ChangeAt Go.RowKit
open Go.ChangeMaps (open_string shut_string)
set_option linter.unusedVariables false

theorem own : ownKnob Try.prog.godebug = none := by kernel_rfl
theorem laidOut : laidOutB Try.prog = true := by kernel_rfl

open Alk Digit
theorem lit_first : firstR [0, 1] [1] = 1 ∧ firstE [0, 1] [1] = 0 := by decide +kernel

set_option maxRecDepth 100000 in
set_option maxHeartbeats 2000000 in
theorem walk (x0 : Int) (x1 : Sl Int) (x2 : Sl Int) (x3 : Int) (w : World) (w0 : (Lit.int .i64 x0).wf = true) (t1 : Tab w x1.a x1.len x1.cap 1 (x1.l.map iC)) (b1 : x1.len * 8 ≤ 140737488351232) (o1 : ∀ z ∈ x1.l, wfI z) (t2 : Tab w x2.a x2.len x2.cap 1 (x2.l.map iC)) (b2 : x2.len * 8 ≤ 140737488351232) (o2 : ∀ z ∈ x2.l, wfI z) (w3 : (Lit.int .i64 x3).wf = true) :
    Calls Try.prog 6 #[.int .i64 x0, .slice x1.a x1.len x1.cap, .slice x2.a x2.len x2.cap, .int .i64 x3] w fun e w' => e = .returned (.bool true) ∧ Below w.heap.size w w' := by
  obtain ⟨a, len, cap, L⟩ := x1
  obtain ⟨b, len2, cap2, M⟩ := x2
  have hT1 : Tab w a len cap 1 (L.map iC) := t1
  have hT2 : Tab w b len2 cap2 1 (M.map iC) := t2
  have hO1 : ∀ z ∈ L, wfI z := o1
  have hO2 : ∀ z ∈ M, wfI z := o2
  have c0 := wf_i64 w0
  have c3 := wf_i64 w3
  clear t1 t2 o1 o2 b1 b2 w0 w3
  have hbl : Below w.heap.size w ((w.alloc (.cells #[.int .i64 0, .int .i64 1] 3)).alloc (.cells #[.int .i64 1] 3)) := ((Below.refl _ _).alloc (Nat.le_refl _) _).alloc (by simp) _
  have hba : Below (w.alloc (.cells #[.int .i64 0, .int .i64 1] 3)).heap.size (w.alloc (.cells #[.int .i64 0, .int .i64 1] 3)) ((w.alloc (.cells #[.int .i64 0, .int .i64 1] 3)).alloc (.cells #[.int .i64 1] 3)) := (Below.refl _ _).alloc (Nat.le_refl _) _
  have CL := first_any (some ⟨w.heap.size, 0, none⟩) (some ⟨w.heap.size + 1, 0, none⟩) 2 2 1 1 [0, 1] [1] _ ((tab_lit w 3 1 2 ([(0 : Int), 1].map iC) #[.int .i64 0, .int .i64 1] rfl rfl (rows_of iC_len _) (by decide) _ rfl).below hba) (tab_lit (w.alloc (.cells #[.int .i64 0, .int .i64 1] 3)) 3 1 1 ([(1 : Int)].map iC) #[.int .i64 1] rfl rfl (rows_of iC_len _) (by decide) _ (by simp))
  rw [lit_first.1, lit_first.2] at CL
  replace CL := Lib.hid CL
  have HB0 := Lib.hid hbl
  have HW1 := Lib.hid (fun W => within_int x3 12 W c3 (by omega) (by omega))
  have d1 := withI_bd x3 12 (by omega)
  generalize withI x3 12 = K at *
  obtain ⟨n, hn⟩ := Int.eq_ofNat_of_zero_le (show 0 ≤ 1 + K by omega)
  have n1 : 1 ≤ n := by omega
  have n2 : n ≤ 12 := by omega
  have hK0 := d1.1
  have hK1 := d1.2
  have HN := Lib.hid hn
  have hf0 := fact_pos n
  have hf1 := fact_max n2
  have HF := Lib.hid (fun W => refFact_any n n2 W)
  have HW2 := Lib.hid (fun W => within_int x0 (fact n : Nat) W c0 (by omega) (by omega))
  have d2 := withI_bd x0 (fact n : Nat) (by omega)
  generalize withI x0 (fact n : Nat) = R at *
  obtain ⟨r, rfl⟩ := Int.eq_ofNat_of_zero_le d2.1
  have hr : r < fact n := by omega
  obtain ⟨hol, hok⟩ := orderOf_ok hr
  have HO := Lib.hid (fun W => order_ok n r n2 hr W)
  have HTA := Lib.hid (fun W (hb : Below w.heap.size w W) => things_any a len cap L n W (hT1.below hb) hO1 n1 n2)
  have HTB := Lib.hid (fun W (hb : Below w.heap.size w W) => things_any b len2 cap2 M n W (hT2.below hb) hO2 n1 n2)
  have hGA : thingsL L n ≠ [] → firstE (orderOf n r) (thingsL L n) = 0 := things_good hol n2 hok
  have hGB : thingsL M n ≠ [] → firstE (orderOf n r) (thingsL M n) = 0 := things_good hol n2 hok
  have hAb : ∀ z ∈ thingsL L n, 0 ≤ z ∧ z < (n : Int) := fun z hz => (thingsL_mem.1 hz).1
  have hBb : ∀ z ∈ thingsL M n, 0 ≤ z ∧ z < (n : Int) := fun z hz => (thingsL_mem.1 hz).1
  have hAl := thingsL_len L n
  have hBl := thingsL_len M n
  generalize thingsL L n = A at *
  generalize thingsL M n = B at *
  have hC := things_both n2 hAb hBb
  have hGC : thingsL (A ++ B) n ≠ [] → firstE (orderOf n r) (thingsL (A ++ B) n) = 0 := things_good hol n2 hok
  have HTC := Lib.hid (fun (W : World) (q : Option Addr) (m c : Nat) (hT : Tab W q m c 1 ((A ++ B).map iC)) => things_any q m c (A ++ B) n W hT (fun z hz => by
    have hz2 : 0 ≤ z ∧ z < (n : Int) := by
      rcases List.mem_append.1 hz with h | h
      · exact hAb z h
      · exact hBb z h
    exact wfT (by omega) (by omega)) n1 n2)
  generalize thingsL (A ++ B) n = C at *
  generalize orderOf n r = o at *
  have HX : Hid (A ≠ [] → B ≠ [] → firstE o A = 0 ∧ firstE o B = 0 ∧ firstE o C = 0 ∧ (firstV o C ∈ A ∨ firstV o C ∈ B) ∧ (firstV o C ∈ A → firstV o A = firstV o C) ∧ (firstV o C ∈ B → firstV o B = firstV o C) ∧ firstV o A ∈ A ∧ firstV o B ∈ B) := Lib.hid (fun hA hB => by
    have hCn : C ≠ [] := by
      intro h
      cases A with
      | nil => exact hA rfl
      | cons x A' => have := (hC x).2 (Or.inl (List.mem_cons_self ..)); rw [h] at this; cases this
    refine ⟨hGA hA, hGB hB, hGC hCn, (hC _).1 (firstV_spec hCn).1, fun h => ?_, fun h => ?_, (firstV_spec hA).1, (firstV_spec hB).1⟩
    · exact first_within hok (fun y hy => by rw [hol]; exact hAb y hy) (fun y hy => (hC y).2 (Or.inl hy)) h
    · exact first_within hok (fun y hy => by rw [hol]; exact hBb y hy) (fun y hy => (hC y).2 (Or.inr hy)) h)
  have HLB := Lib.hid (And.intro hAl hBl)
  have HOL := Lib.hid hol
  clear hGA hGB hGC hC hAb hBb hAl hBl hok hol hr d1 d2 hn hT1 hT2 hO1 hO2 hbl hba c0 c3
  go_enter Try.func6, Try.ntmps6
  go_wp2_with fail
  refine CL.out.mono ?_
  rintro e v1 ⟨rfl, hb⟩
  have HB1 := Lib.hid (below_on HB0.out hb)
  clear hb CL HB0
  go_wp2_with fail
  refine (HW1.out _).mono ?_
  rintro e v2 ⟨rfl, hv2⟩
  rw [← hv2]
  clear hv2 HW1
  go_upto_region 5 with fail
  rw [HN.out]
  clear HN
  go_wp2_with fail
  refine (HF.out _).mono ?_
  rintro e v2 ⟨rfl, hv2⟩
  rw [hv2]
  clear hv2 HF
  go_wp2_with fail
  refine (HW2.out _).mono ?_
  rintro e v3 ⟨rfl, hv3⟩
  rw [← hv3]
  clear hv3 HW2
  go_wp2_with fail
  refine (HO.out _).mono ?_
  rintro e v4 ⟨q4, rfl, hO, hb⟩
  obtain ⟨ao, co, rfl, hT⟩ := hO.tab
  rw [List.length_map, HOL.out] at hT ⊢
  have HTO := Lib.hid hT
  have HB4 := Lib.hid (below_on HB1.out hb)
  clear hb hO hT HO HB1
  go_wp2_with fail
  refine (HTA.out _ HB4.out).mono ?_
  rintro e v5 ⟨q5, rfl, hO, hb⟩
  obtain ⟨aA, cA, rfl, hT⟩ := hO.tab
  rw [List.length_map] at hT ⊢
  obtain ⟨nA, hnA⟩ : ∃ u, A.length = u := ⟨_, rfl⟩
  rw [hnA] at hT ⊢
  have HNA := Lib.hid hnA
  have HT5 := Lib.hid hT
  have HB5 := Lib.hid (below_on HB4.out hb)
  replace HTO := Lib.hid (HTO.out.below hb)
  clear hb hO hT hnA HTA HB4
  go_wp2_with fail
  refine (HTB.out _ HB5.out).mono ?_
  rintro e v6 ⟨q6, rfl, hO, hb⟩
  obtain ⟨aB, cB, rfl, hT⟩ := hO.tab
  rw [List.length_map] at hT ⊢
  obtain ⟨nB, hnB⟩ : ∃ u, B.length = u := ⟨_, rfl⟩
  rw [hnB] at hT ⊢
  have HNB := Lib.hid hnB
  have HT6 := Lib.hid hT
  have HB6 := Lib.hid (below_on HB5.out hb)
  replace HTO := Lib.hid (HTO.out.below hb)
  replace HT5 := Lib.hid (HT5.out.below hb)
  clear hb hO hT hnB HTB HB5
  by_cases hA : nA = 0
  · subst hA
    clear HX
    go_wp2_with fail
    go_ret
    exact ⟨rfl, HB6.out⟩
  have tA : ((nA : Int) == 0) = false := by simpa using hA
  by_cases hB : nB = 0
  · subst hB
    clear HX hA
    go_wp2_with fail
    go_ret
    exact ⟨rfl, HB6.out⟩
  have tB : ((nB : Int) == 0) = false := by simpa using hB
  obtain ⟨eA, eB, eC, hz, hzA, hzB, hxA, hyB⟩ := HX.out (fun h => hA (by rw [← HNA.out, h]; rfl)) (fun h => hB (by rw [← HNB.out, h]; rfl))
  have rA : firstR o A = firstV o A := if_pos eA
  have rB : firstR o B = firstV o B := if_pos eB
  have rC : firstR o C = firstV o C := if_pos eC
  have C1 := fun W (h1 : Tab W ao n co 1 (o.map iC)) (h2 : Tab W aA nA cA 1 (A.map iC)) => first_any ao aA n co nA cA o A W h1 h2
  have C2 := fun W (h1 : Tab W ao n co 1 (o.map iC)) (h2 : Tab W aB nB cB 1 (B.map iC)) => first_any ao aB n co nB cB o B W h1 h2
  have C3 := fun W (q : Option Addr) (m c : Nat) (h1 : Tab W ao n co 1 (o.map iC)) (h2 : Tab W q m c 1 (C.map iC)) => first_any ao q n co m c o C W h1 h2
  rw [rA, eA] at C1
  rw [rB, eB] at C2
  rw [rC, eC] at C3
  replace C1 := Lib.hid C1
  replace C2 := Lib.hid C2
  replace C3 := Lib.hid C3
  have HZ := Lib.hid (And.intro hz (And.intro hzA (And.intro hzB (And.intro hxA hyB))))
  generalize firstV o A = x at *
  generalize firstV o B = y at *
  generalize firstV o C = z at *
  clear hA hB eA eB eC rA rB rC hz hzA hzB hxA hyB HX
  go_wp2_with fail
  refine (C1.out _ HTO.out HT5.out).mono ?_
  rintro e v7 ⟨rfl, hb⟩
  replace HTO := Lib.hid (HTO.out.below hb)
  replace HT5 := Lib.hid (HT5.out.below hb)
  replace HT6 := Lib.hid (HT6.out.below hb)
  replace HB6 := Lib.hid (below_on HB6.out hb)
  clear hb C1
  go_wp2_with fail
  refine (C2.out _ HTO.out HT6.out).mono ?_
  rintro e v8 ⟨rfl, hb⟩
  replace HTO := Lib.hid (HTO.out.below hb)
  replace HT5 := Lib.hid (HT5.out.below hb)
  replace HT6 := Lib.hid (HT6.out.below hb)
  replace HB6 := Lib.hid (below_on HB6.out hb)
  clear hb C2
  have hlit2 : Tab (v8.alloc (.cells #[.slice aA nA cA, .slice aB nB cB] 23)) (some ⟨v8.heap.size, 0, none⟩) 2 2 1 (([⟨aA, nA, cA, A⟩, ⟨aB, nB, cB, B⟩] : List (Sl Int)).map slC) := tab_lit v8 23 1 2 (([⟨aA, nA, cA, A⟩, ⟨aB, nB, cB, B⟩] : List (Sl Int)).map slC) #[.slice aA nA cA, .slice aB nB cB] rfl rfl (by intro r hr; obtain ⟨y, _, rfl⟩ := List.mem_map.1 hr; rfl) (by decide) _ rfl
  have hbl : Below v8.heap.size v8 (v8.alloc (.cells #[.slice aA nA cA, .slice aB nB cB] 23)) := (Below.refl _ _).alloc (Nat.le_refl _) _
  have CC := Lib.hid (concat_ints _ 2 2 _ _ hlit2 (by
    intro s hs
    rcases List.mem_cons.1 hs with rfl | hs
    · exact HT5.out.below hbl
    · obtain rfl := List.mem_singleton.1 hs
      exact HT6.out.below hbl) (by have h1 := HLB.out.1; have h2 := HLB.out.2; rw [HNA.out] at h1; rw [HNB.out] at h2; simp; omega))
  replace HTO := Lib.hid (HTO.out.below hbl)
  replace HT5 := Lib.hid (HT5.out.below hbl)
  replace HT6 := Lib.hid (HT6.out.below hbl)
  replace HB6 := Lib.hid (below_on HB6.out hbl)
  clear hlit2 hbl
  go_wp2_with fail
  refine CC.out.mono ?_
  rintro e v9 ⟨qc, rfl, hO, hb⟩
  obtain ⟨ac, cc, rfl, hT⟩ := hO.tab
  have hfl : (([⟨aA, nA, cA, A⟩, ⟨aB, nB, cB, B⟩] : List (Sl Int)).flatMap (·.l)) = A ++ B := by simp
  rw [hfl] at hT ⊢
  obtain ⟨nc, hnc⟩ : ∃ u, ((A ++ B).map iC).length = u := ⟨_, rfl⟩
  rw [hnc] at hT ⊢
  have CT := Lib.hid (HTC.out v9 ac nc cc hT)
  replace HTO := Lib.hid (HTO.out.below hb)
  replace HT5 := Lib.hid (HT5.out.below hb)
  replace HT6 := Lib.hid (HT6.out.below hb)
  replace HB6 := Lib.hid (below_on HB6.out hb)
  clear hnc hfl hO hT hb CC HTC
  go_wp2_with fail
  refine CT.out.mono ?_
  rintro e v10 ⟨q10, rfl, hO, hb⟩
  obtain ⟨aC, cC, rfl, hT⟩ := hO.tab
  rw [List.length_map] at hT ⊢
  obtain ⟨nC, hnC⟩ : ∃ u, C.length = u := ⟨_, rfl⟩
  rw [hnC] at hT ⊢
  replace HTO := Lib.hid (HTO.out.below hb)
  replace HT5 := Lib.hid (HT5.out.below hb)
  replace HT6 := Lib.hid (HT6.out.below hb)
  replace HB6 := Lib.hid (below_on HB6.out hb)
  have CF := Lib.hid (C3.out v10 aC nC cC HTO.out hT)
  clear hnC hO hT hb CT C3
  go_wp2_with fail
  refine CF.out.mono ?_
  rintro e v11 ⟨rfl, hb⟩
  replace HT5 := Lib.hid (HT5.out.below hb)
  replace HT6 := Lib.hid (HT6.out.below hb)
  replace HB6 := Lib.hid (below_on HB6.out hb)
  clear hb CF HTO
  obtain ⟨hz, hzA, hzB, hxA, hyB⟩ := HZ.out
  have t0 : (z == z) = true := by simp
  by_cases gA : z ∈ A
  · obtain rfl : x = z := hzA gA
    have D1 := Lib.hid (contains_ints aA nA cA A x v11 HT5.out true (by simpa using gA))
    by_cases gB : x ∈ B
    · obtain rfl : y = x := hzB gB
      have D2 := Lib.hid (contains_ints aB nB cB B y v11 HT6.out true (by simpa using gB))
      clear hz hzA hzB hxA hyB gA gB HZ
      go_wp2_with fail
      refine D1.out.mono ?_
      rintro e v12 ⟨rfl, hv⟩
      rw [← hv]
      clear hv
      go_wp2_with fail
      refine D2.out.mono ?_
      rintro e v12 ⟨rfl, hv⟩
      rw [← hv]
      clear hv
      go_wp2
      go_ret
      exact ⟨rfl, HB6.out⟩
    · have D2 := Lib.hid (contains_ints aB nB cB B x v11 HT6.out false (by simpa using gB))
      clear hz hzA hzB hxA hyB gA gB HZ
      go_wp2_with fail
      refine D1.out.mono ?_
      rintro e v12 ⟨rfl, hv⟩
      rw [← hv]
      clear hv
      go_wp2_with fail
      refine D2.out.mono ?_
      rintro e v12 ⟨rfl, hv⟩
      rw [← hv]
      clear hv
      go_wp2
      go_ret
      exact ⟨rfl, HB6.out⟩
  · have gB : z ∈ B := hz.resolve_left gA
    obtain rfl : y = z := hzB gB
    have t1 : (y == x) = false := by
      rw [beq_eq_false_iff_ne]
      intro h
      exact gA (by rw [h]; exact hxA)
    have D1 := Lib.hid (contains_ints aA nA cA A y v11 HT5.out false (by simpa using gA))
    have D2 := Lib.hid (contains_ints aB nB cB B y v11 HT6.out true (by simpa using gB))
    clear hz hzA hzB hxA hyB gA gB HZ
    go_wp2_with fail
    refine D1.out.mono ?_
    rintro e v12 ⟨rfl, hv⟩
    rw [← hv]
    clear hv
    go_wp2_with fail
    refine D2.out.mono ?_
    rintro e v12 ⟨rfl, hv⟩
    rw [← hv]
    clear hv
    go_wp2
    go_ret
    exact ⟨rfl, HB6.out⟩

set_option maxRecDepth 100000 in
theorem lifted (os : Os) (started : os.Started) (H : Type) (enc : TypeId × Value → H) :
    ReturnsInHanded {} Try.checked os 6 .any (Rows.alikeJoinSpec.pre6 enc Try.prog Try.f6 Rows.alikeJoinRow.domain false) (Rows.alikeJoinSpec.post enc Try.prog Try.f6 false true false false) := by
  refine returnsInHanded_of_change_sized (C := Try.checked) own started (by kernel_rfl) Try.func6
    (ChangeSpec.witness6 (enc := enc) (C := Try.checked) false ⟨#[], #[.int .i64 0, .slice none 0 0, .slice none 0 0, .int .i64 0], []⟩ 8 (by kernel_rfl) (by kernel_rfl) (by kernel_rfl) (by kernel_rfl)) ?_
  intro W base args ds gs before hval0 hW hcnd hsz0 _
  have hval : ∀ (j : Nat) t v, Try.f6.params[j]? = some t → args[j]? = some v → Value.okWide Try.prog W .any base t v := hval0
  have hW' := hW
  obtain ⟨p, q, hA0, hV, rfl, hfz, hnd⟩ := hW
  have hA : DataW.TrodAll enc Try.prog W 0 (fun _ => true) true Try.f6.params.toList args.toList ds p := hA0
  have hsz : (DataW.weightsEach Try.prog (Try.f6.params.toList ++ Rows.alikeJoinSpec.plain.varTypes Try.prog) (ds ++ gs)).all (· ≤ reachBytes) = true := hsz0
  rw [Try.params6] at hA hval hsz
  obtain ⟨v0, vs0, d0, ds0, p0, q0, hargs, rfl, rfl, h0, r0⟩ := trodAll_cons hA
  obtain ⟨v1, vs1, d1, ds1, p1, q1, rfl, rfl, rfl, h1, r1⟩ := trodAll_cons r0
  obtain ⟨v2, vs2, d2, ds2, p2, q2, rfl, rfl, rfl, h2, r2⟩ := trodAll_cons r1
  obtain ⟨v3, vs3, d3, ds3, p3, q3, rfl, rfl, rfl, h3, r3⟩ := trodAll_cons r2
  obtain ⟨rfl, rfl, rfl⟩ := trodAll_nil r3
  obtain rfl : args = #[v0, v1, v2, v3] := by cases args; simp_all
  obtain ⟨rfl, rfl⟩ := trodVars_none hV
  have k0 := h0
  have L0 := light_of hsz (j := 0) (t := 3) (d := d0) rfl rfl
  have lt0 : ∀ x ∈ p0, x.block < W.heap.size := by obtain ⟨m, hm⟩ := k0; exact DataW.trod_lt m _ _ _ hm
  obtain ⟨x0, rfl, rfl, rfl, w0⟩ := open_int Try.underlying3 (hval 0 3 v0 rfl rfl) h0
  have k1 := h1
  have L1 := light_of hsz (j := 1) (t := 23) (d := d1) rfl rfl
  have lt1 : ∀ x ∈ p1, x.block < W.heap.size := by obtain ⟨m, hm⟩ := k1; exact DataW.trod_lt m _ _ _ hm
  obtain ⟨a1, len1, cap1, rfl⟩ := okWide_slice Try.underlying23 (hval 1 23 v1 rfl rfl)
  obtain ⟨n1, f1⟩ := trod_slice_of Try.underlying23 h1
  have F1 := And.intro f1 L1
  obtain ⟨x1, e1, t1, b1, o1⟩ := el_slice (w := W) (k := 1) iC wfI (by decide) Try.underlying23 (by kernel_rfl) (el_int Try.underlying3) (B := 8) (by kernel_rfl) _ _ _ F1.1 F1.2
  simp only [slC, List.cons.injEq, Value.slice.injEq, and_true] at e1
  obtain ⟨rfl, rfl, rfl⟩ := e1
  have k2 := h2
  have L2 := light_of hsz (j := 2) (t := 23) (d := d2) rfl rfl
  have lt2 : ∀ x ∈ p2, x.block < W.heap.size := by obtain ⟨m, hm⟩ := k2; exact DataW.trod_lt m _ _ _ hm
  obtain ⟨a2, len2, cap2, rfl⟩ := okWide_slice Try.underlying23 (hval 2 23 v2 rfl rfl)
  obtain ⟨n2, f2⟩ := trod_slice_of Try.underlying23 h2
  have F2 := And.intro f2 L2
  obtain ⟨x2, e2, t2, b2, o2⟩ := el_slice (w := W) (k := 1) iC wfI (by decide) Try.underlying23 (by kernel_rfl) (el_int Try.underlying3) (B := 8) (by kernel_rfl) _ _ _ F2.1 F2.2
  simp only [slC, List.cons.injEq, Value.slice.injEq, and_true] at e2
  obtain ⟨rfl, rfl, rfl⟩ := e2
  have k3 := h3
  have L3 := light_of hsz (j := 3) (t := 3) (d := d3) rfl rfl
  have lt3 : ∀ x ∈ p3, x.block < W.heap.size := by obtain ⟨m, hm⟩ := k3; exact DataW.trod_lt m _ _ _ hm
  obtain ⟨x3, rfl, rfl, rfl, w3⟩ := open_int Try.underlying3 (hval 3 3 v3 rfl rfl) h3
  clear hA0 hval0
  refine (walk x0 x1 x2 x3 W w0 t1 b1 o1 t2 b2 o2 w3).mono fun e W' ⟨he, hg⟩ => ?_
  subst he
  exact ⟨_, rfl, _, _, _, [], _, [], hW', trodAll_mk1 (shut_bool Try.underlying4 _), (trodAll_cons_mk (Below.trod laidOut (by kernel_rfl) (of_decide_eq_true (by kernel_rfl)) k0 hg lt0) (trodAll_cons_mk (Below.trod laidOut (by kernel_rfl) (of_decide_eq_true (by kernel_rfl)) k1 hg lt1) (trodAll_cons_mk (Below.trod laidOut (by kernel_rfl) (of_decide_eq_true (by kernel_rfl)) k2 hg lt2) (trodAll_cons_mk (Below.trod laidOut (by kernel_rfl) (of_decide_eq_true (by kernel_rfl)) k3 hg lt3) trodAll_mk0)))), rfl, hg.frame _, fun h => by cases h⟩

theorem over : Rows.alikeJoinRow.holds Try.pinned (OpenSpec.ofChange Rows.alikeJoinSpec) :=
  OpenClaim.holds_of_wide 6 Try.f6 rfl rfl rfl rfl rfl rfl rfl ⟨rfl, rfl, rfl, rfl, rfl⟩ rfl rfl rfl rfl rfl (by kernel_rfl) Try.func6 (by kernel_rfl)
    (of_decide_eq_true (by kernel_rfl)) (by unfold Func.isWrapper; first | (rw [if_pos (by decide +kernel)]; kernel_rfl) | (rw [if_neg (by decide +kernel)]; exact ⟨rfl, rfl⟩))
    (fun os started H enc _ => lifted os started H enc)

/-- ████ THE STATEMENT ████ -/
theorem proved : Rows.AlikeJoinSaid :=
  over
#print axioms proved
end Go.Proofs.Ytoijeafhohcbdaa.alikeJoin
