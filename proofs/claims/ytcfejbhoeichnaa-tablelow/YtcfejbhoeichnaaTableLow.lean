/-
  'Rows.TableLowSaid' is proved: no count is lower than how often a key came, nor higher than all; each row has all. No condition.
-/
import Derived.Test.YtcfejbhoeichnaaRows
import Derived.Test.YtcfejbhoeichnaaShapes
import Derived.Test.YtcfejbhoeichnaaTabLow
import Derived.Test.YtcfejbhoeichnaaTabSame
import Derived.Test.YtcfejbhoeichnaaCloneCounters
import Derived.Deep.DeepCutAuto
import Derived.WalkKit
import Derived.ProofKit
import Derived.OpenShut
import Derived.ShutString
import Derived.ChangeOld
import Derived.Below
namespace Go.Proofs.Ytcfejbhoeichnaa.tableLow
open Go.ChangeShapes Go.WideShapes Go.ChangeAt Go.RowKit
open Go.ChangeMaps (open_string shut_string)
set_option linter.unusedVariables false

theorem own : ownKnob Try.prog.godebug = none := by kernel_rfl
theorem laidOut : laidOutB Try.prog = true := by kernel_rfl

open Tbl Came
theorem tab_of_own {w : World} {base : Nat} {e : TypeId} {v : Value} {C : List (Int × Int)} (h : Own w base e 2 v (C.map iiC)) : ∃ a n c, v = .slice a n c ∧ Tab w a n c 2 (C.map iiC) := by
  obtain ⟨a, c, e1, h1⟩ := h.tab
  exact ⟨a, _, c, e1, h1⟩
theorem tt_lit_below (w : World) (n : Int) : Below w.heap.size w ((w.alloc (.cells #[.int .i64 n] 3)).alloc (.cells #[.slice (some ⟨w.heap.size, 0, none⟩) 1 1] 34)) := ((Below.refl _ _).alloc (Nat.le_refl _) _).alloc (by simp) _
theorem tab_max {w : World} {a : Option Addr} {len cap k : Nat} {R : List (List Value)} (h : Tab w a len cap k R) : cap ≤ 9223372036854775807 ∧ len ≤ cap := by
  have h1 := h.hmax
  unfold maxLen at h1
  exact ⟨h1, h.hle⟩

set_option maxRecDepth 100000 in
set_option maxHeartbeats 2000000 in
theorem walk (x0 : Int) (x1 : Int) (x2 : Sl (Sl Int)) (x3 : Int) (w : World) (w0 : (Lit.int .i64 x0).wf = true) (w1 : (Lit.int .i64 x1).wf = true) (t2 : Tab w x2.a x2.len x2.cap 1 (x2.l.map slC)) (b2 : x2.len * 24 ≤ 140737488351232) (o2 : ∀ z ∈ x2.l, (fun y : Sl Int => Tab w y.a y.len y.cap 1 (y.l.map iC) ∧ y.len * 8 ≤ 140737488351232 ∧ ∀ z ∈ y.l, wfI z) z) (w3 : (Lit.int .i64 x3).wf = true) :
    Calls Try.prog 5 #[.int .i64 x0, .int .i64 x1, .slice x2.a x2.len x2.cap, .int .i64 x3] w fun e w' => e = .returned (.bool true) ∧ Below w.heap.size w w' := by
  obtain ⟨a, len, cap, L⟩ := x2
  have bb0 := wf_i64 w0
  have bb1 := wf_i64 w1
  have HR := Lib.hid (fun W => rows_any x0 x1 W bb0 bb1)
  have s1 := (widB_bd x0).2.1
  have s2 := (widB_bd x0).2.2
  have m1 := (rowB_bd x1).2.1
  have m2 := (rowB_bd x1).2.2
  generalize widB x0 = s at *
  generalize rowB x1 = m at *
  generalize x3 = key at *
  have hC1 := fun W (hb : Below w.heap.size w W) => came_any a len cap L 1000 W (t2.below hb) (fun z hz => ⟨(o2 z hz).1.below hb, (o2 z hz).2.2⟩) (by decide) (by decide)
  have pC := of_nonneg (most := 1000) (by decide) ((L.take 60).map (fun s => s.l))
  have sC := of_sum (most := 1000) (by decide) (by decide) (L := (L.take 60).map (fun s => s.l)) (by rw [List.length_map, List.length_take]; omega)
  have wC := of_keys (most := 1000) (L := (L.take 60).map (fun s => s.l)) (fun c hc y hy => by
    obtain ⟨z, hz, rfl⟩ := List.mem_map.1 hc
    exact (o2 z (List.mem_of_mem_take hz)).2.2 y hy)
  have lC := of_len 1000 ((L.take 60).map (fun s => s.l))
  rw [List.length_map, List.length_take] at lC
  have lC2 : (of 1000 ((L.take 60).map (fun s => s.l))).length ≤ 60 := by omega
  generalize of 1000 ((L.take 60).map (fun s => s.l)) = C at *
  have zg := zero_good s1 s2 m1 m2
  have hCA := fun (W : World) (P : Nat → Prop) (a' q : Option Addr) (c' n c : Nat) (h1 : TTx W P a' m c' (zeroR s m)) (h2 : Tab W q n c 2 (C.map iiC)) => counted_any s a' q m c' n c (zeroR s m) C P 0 W h1 h2 zg (zero_most s m) (by decide) pC (by omega)
  have gA := all_zero_good s1 s2 m1 m2 pC (by omega)
  have rsum : ∀ (i : Nat) (r : List Int), (allR s C (zeroR s m))[i]? = some r → r.sum = sumN C := fun i r h => all_sum s1 h
  have hask : ∀ k, oft k C ≤ askR s k (allR s C (zeroR s m)) ∧ askR s k (allR s C (zeroR s m)) ≤ sumN C := fun k => ask_all s1 m1 pC sC
  have hCN := fun (W : World) (q : Option Addr) (n c : Nat) (h : Tab W q n c 2 (C.map iiC)) => counts_any q n c C W h (by have h1 := h.hlen; rw [List.length_map] at h1; omega) pC wC (by omega)
  have hs0 := (oft_bd (z := 0) pC)
  have hall0 : 0 ≤ sumN C := by omega
  obtain ⟨al, hal⟩ : ∃ al, sumN C = al := ⟨_, rfl⟩
  rw [hal] at sC rsum hask hC1 hall0
  have hob : ∀ k, 0 ≤ oft k C := fun k => (oft_bd pC).1
  generalize allR s C (zeroR s m) = RA at *
  have HCA := Lib.hid hCA
  have HGA := Lib.hid gA
  have HRS := Lib.hid rsum
  have HAK := Lib.hid hask
  have HCN := Lib.hid hCN
  have HC1 := Lib.hid hC1
  have HWC := Lib.hid wC
  have HLC := Lib.hid lC2
  have HOB := Lib.hid hob
  have wkey : wfI key := w3
  have HWK := Lib.hid wkey
  have h3 := tt_one w 3
  have hb1 := tt_lit_below w 3
  have C0 := tput_fine 1 5 4 (some ⟨w.heap.size + 1, 0, none⟩) 1 1 [[3]] anyB _ h3 (good_one (by decide) (by decide)) (by decide) (by decide) (by rw [put_one]; exact good_fits (good_one (by decide) (by decide)))
  rw [put_one, show (3 : Int) + 4 = 7 from rfl] at C0
  have HC0 := Lib.hid C0
  have HB1 := Lib.hid hb1
  clear hCA gA rsum hask hCN hC1 wC lC lC2 pC zg h3 hb1 C0 t2 o2 b2 bb0 bb1 w0 w1 hs0 hal hob wkey
  go_enter Try.func5, Try.ntmps5
  go_wp2_with fail
  refine HC0.out.mono ?_
  rintro e v1 ⟨a7, c7, rfl, htt, hb⟩
  have hz := ST.new (W := 1) htt
  have HB2 := Lib.hid (below_on (below_on HB1.out hb) hz.2)
  obtain ⟨v2, hv⟩ : ∃ v, v1.alloc (.cells #[.int .i64 1, .slice a7 1 c7] 39) = v := ⟨_, rfl⟩
  rw [hv] at hz HB2
  obtain ⟨X7, hX⟩ : ∃ X, v1.heap.size = X := ⟨_, rfl⟩
  rw [hX] at hz
  have S7 := Lib.hid hz.1
  have HVX := Lib.hid (And.intro hv hX)
  clear hb htt hz hv hX HC0 HB1
  go_upto_region 2 with fail
  rw [HVX.out.1, HVX.out.2]
  clear HVX
  have hb1 := tt_lit_below v2 7
  have D0 := Lib.hid (sameT_any 1 1 a7 (some ⟨v2.heap.size + 1, 0, none⟩) 1 c7 1 1 [[7]] [[7]] anyB anyB _ (S7.out.2.below hb1) (tt_one v2 7) true (by simp))
  have HB3 := Lib.hid (below_on HB2.out hb1)
  clear hb1 HB2
  obtain ⟨c0, c1⟩ := S7.out.cells
  go_wp2_with fail
  clear c0 c1 S7
  refine D0.out.mono ?_
  rintro e v3 ⟨rfl, hb⟩
  have HB4 := Lib.hid (below_on HB3.out hb)
  clear hb D0 HB3
  go_wp2_with fail
  refine (HC1.out _ HB4.out).mono ?_
  rintro e v4 ⟨q1, rfl, hO, hb⟩
  obtain ⟨qa, qn, qc, rfl, hTC⟩ := tab_of_own hO
  have HTC := Lib.hid hTC
  have HB5 := Lib.hid (below_on HB4.out hb)
  clear hb hO hTC HC1 HB4
  go_wp2_with fail
  refine (HR.out _).mono ?_
  rintro e v5 ⟨za, zc, rfl, htt, hb⟩
  have HTT := Lib.hid htt
  replace HTC := Lib.hid (HTC.out.below hb)
  have HB6 := Lib.hid (below_on HB5.out hb)
  clear hb htt HB5 HR
  go_wp2_with fail
  refine (HCA.out _ _ _ _ _ _ _ HTT.out HTC.out).mono ?_
  rintro e v6 ⟨aA, cA, rfl, htt, hb⟩
  have hz := ST.new (W := s) htt
  replace HTC := Lib.hid ((HTC.out.below hb).below hz.2)
  have HB7 := Lib.hid (below_on (below_on HB6.out hb) hz.2)
  obtain ⟨v7, hv⟩ : ∃ v, v6.alloc (.cells #[.int .i64 s, .slice aA m cA] 39) = v := ⟨_, rfl⟩
  rw [hv] at hz HTC HB7
  obtain ⟨XA, hX⟩ : ∃ X, v6.heap.size = X := ⟨_, rfl⟩
  rw [hX] at hz
  have SA := Lib.hid hz.1
  have HVX := Lib.hid (And.intro hv hX)
  have HLA := Lib.hid htt.len
  have hmx := htt.max
  clear hb htt hz hv hX HTT HCA HB6
  go_upto_region 6 with fail
  rw [HVX.out.1, HVX.out.2]
  clear HVX
  obtain ⟨c0, c1⟩ := SA.out.cells
  go_wp2_with fail
  clear c0 c1
  go_loopg [57] m (fun g i wr => ∃ k : Nat, k + g = m ∧ i = .int .i64 k ∧ Hid (Below v7.heap.size v7 wr))
  case atStart => exact ⟨0, by omega, rfl, Lib.hid (Below.refl _ _)⟩
  case round =>
    obtain ⟨k, hk0, rfl, HW⟩ := hrel
    have HJ := Lib.hid hk0
    have hk : k ≤ m := by omega
    clear hk0
    by_cases hlt : k < m
    · obtain ⟨r, hr⟩ : ∃ r, RA[k]? = some r := ⟨_, List.getElem?_eq_getElem (by rw [HLA.out]; exact hlt)⟩
      have hrm := List.mem_of_getElem? hr
      have hrl := HGA.out.len r hrm
      have hrs := HRS.out k r hr
      have hrc := HGA.out.cnt r hrm
      obtain ⟨b1, o1, ra, rn, rc, ha, hbs, c0, hTq, hqn, hqc, hqm⟩ := SA.out.2.row HW.out hr
      have D1 := rowSum_any ra rn rc r wr hTq (by rw [← hqn, hrl]; omega) hrc
      rw [hrs] at D1
      have HD1 := Lib.hid D1
      have t0 : (al != al) = false := by simp
      subst ha
      clear hr hrm hrl hrs hrc hTq hqn D1
      go_wp2_with fail
      refine HD1.out.mono ?_
      rintro e w1 ⟨rfl, hw1⟩
      rw [hw1]
      clear hw1 HD1 c0
      go_wp2_with fail
      go_roundg (m - (k + 1))
      case measure => have := HJ.out; omega
      case rel => exact ⟨k + 1, by omega, by go_num, HW⟩
    · obtain rfl : k = m := by omega
      replace HTC := Lib.hid (HTC.out.below HW.out)
      have HB8 := Lib.hid (below_on HB7.out HW.out)
      have SA2 := Lib.hid (SA.out.below HW.out)
      obtain ⟨wq, hwq⟩ : ∃ wq, wq = wr := ⟨_, rfl⟩
      subst hwq
      clear HW HB7 SA hlt
      go_wp2_with fail
      refine (HCN.out _ _ _ _ HTC.out).mono ?_
      rintro e w2 ⟨MB, rfl, hMB, hMS, hb⟩
      have HMS := Lib.hid hMS
      replace HTC := Lib.hid (HTC.out.below hb)
      have HB9 := Lib.hid (below_on HB8.out hb)
      replace SA2 := Lib.hid (SA2.out.below hb)
      clear hb hMB hMS HCN HB8
      have hqn : C.length = qn := by have h := HTC.out.hlen; rw [List.length_map] at h; exact h
      have hqn60 : qn ≤ 60 := by rw [← hqn]; exact HLC.out
      have CL := Lib.hid (clone_counters qa qn qc C w2 HTC.out (by omega))
      go_wp2_with fail
      refine CL.out.mono ?_
      rintro e w3 ⟨v, rfl, hO, hb⟩
      have HO := Lib.hid hO
      have HB23 := Lib.hid hb
      have HCM : Hid ((C.map iiC).length ≤ 60) := Lib.hid (by rw [List.length_map]; exact HLC.out)
      clear hb hO CL HTC
      go_wp2_with ((at_builtin; refine wpList_append_rows _ rfl _ _ 52 rfl w2.heap.size 63 _ 2 16 Try.underlying52 info_counter rfl (by decide) v (C.map iiC) rfl (HO.out.alloc _) ⟨w3.heap.size, 0, none⟩ 1 1 [iiC (key, 0)] rfl rfl (by simp [iiC]) (one_row _ (iiC (key, 0)) 63 _ (by simp)) (by simp [iiC, Value.oneCell']) (by have := HCM.out; omega) (by decide) (by have := HB23.out.size; simp; omega) ?_; intro v6 w6 hO6 hg6; have HB6 := Lib.hid ((HO.out.alloc (.cells #[.int .i64 key, .int .i64 0] 63)).under (HB23.out.alloc HB23.out.size (.cells #[.int .i64 key, .int .i64 0] 63)) (Nat.le_refl _) (by have := HB23.out.size; simp; omega) hg6); obtain ⟨ea, ec, rfl, hT6⟩ := hO6.tab; obtain ⟨en, hen⟩ : ∃ n, (C.map iiC ++ [iiC (key, 0)]).length = n := ⟨_, rfl⟩; rw [hen] at hT6 ⊢; have HEN := Lib.hid hen; have HT6 := Lib.hid hT6; have hem := tab_max hT6; clear hO6 hg6 hen hT6))
      have hT7 := HT6.out
      rw [show C.map iiC ++ [iiC (key, 0)] = (C ++ [(key, 0)]).map iiC from by simp] at hT7
      have HEL : Hid ((C ++ [(key, 0)]).length = en) := Lib.hid (by have h := HEN.out; simp at h ⊢; exact h)
      have HEW : Hid (∀ p ∈ C ++ [(key, (0 : Int))], wfI p.1) := Lib.hid (fun p hp => by
        rcases List.mem_append.1 hp with h | h
        · exact HWC.out p h
        · rw [List.mem_singleton] at h; subst h; exact HWK.out)
      have HT8 := Lib.hid hT7
      replace SA2 := Lib.hid (SA2.out.below HB6.out)
      replace HMS := Lib.hid (HMS.out.below HB6.out)
      have HB7 := Lib.hid (below_on HB9.out HB6.out)
      clear hT7 HT6 HEN HB6 HO HB23 HB9
      generalize C ++ [(key, (0 : Int))] = E at *
      go_loopg [75] en (fun g i wr => ∃ k : Nat, k + g = en ∧ i = .int .i64 k ∧ Hid (Below w6.heap.size w6 wr))
      case atStart => exact ⟨0, by omega, rfl, Lib.hid (Below.refl _ _)⟩
      case round =>
        obtain ⟨j, hj0, rfl, HW⟩ := hrel
        have HJ2 := Lib.hid hj0
        have hj : j ≤ en := by omega
        clear hj0
        by_cases hlt2 : j < en
        · obtain ⟨p, hp⟩ : ∃ x, E[j]? = some x := ⟨_, List.getElem?_eq_getElem (by rw [HEL.out]; exact hlt2)⟩
          obtain ⟨b1, o1, ha, hbs, c0, c1⟩ := HT8.out.two HW.out (map_get hp)
          have hwk := HEW.out p (List.mem_of_getElem? hp)
          have hak := HAK.out p.1
          have hob := HOB.out p.1
          obtain ⟨kk, cc⟩ := p
          simp only at hwk hak hob c0 c1
          have hky : keyOf Try.prog 3 (.int .i64 kk) = some (.int .i64 kk) := Maps.keyOf_int_mk (P := Try.prog) Try.underlying3 hwk
          obtain ⟨wo, hwo⟩ : ∃ wo, wo = wr := ⟨_, rfl⟩
          subst hwo
          have hal2 : Below wo.heap.size wo (wo.alloc (.cells #[.int .i64 kk, .int .i64 cc] 63)) := (Below.refl _ _).alloc (Nat.le_refl _) _
          have kc := (MapKept.heap_alloc wo (.cells #[.int .i64 kk, .int .i64 cc] 63)).1
          have SA3 := Lib.hid ((SA2.out.below HW.out).below hal2)
          have HMS3 := (HMS.out.below HW.out).below hal2
          obtain ⟨w7, hw7⟩ : ∃ v, wo.alloc (.cells #[.int .i64 kk, .int .i64 cc] 63) = v := ⟨_, rfl⟩
          rw [hw7] at hal2 kc SA3 HMS3
          have HV7 := Lib.hid hw7
          have HKC := Lib.hid kc
          have HM3 := Lib.hid HMS3
          have HW7 := Lib.hid (below_on HW.out hal2)
          have D2 := Lib.hid (task_ok s kk aA k cA RA anyB w7 SA3.out.2 HGA.out)
          obtain ⟨A, hA⟩ : ∃ A, askR s kk RA = A := ⟨_, rfl⟩
          obtain ⟨O, hOO⟩ : ∃ O, oft kk C = O := ⟨_, rfl⟩
          rw [hA] at D2 hak
          rw [hOO] at hak hob
          have HOO : Hid (oft kk C.reverse = O) := Lib.hid (by rw [oft_reverse]; exact hOO)
          have HKY := Lib.hid hky
          have q1 := hak.1
          have q2 := hak.2
          have t1 : decide (A < O) = false := decide_eq_false (by omega)
          have t2 : decide (al < A) = false := decide_eq_false (by omega)
          subst ha
          clear hp hwk hak hky hal2 kc HMS3 hw7 hA hOO hob HW
          go_upto_region 18 with fail
          rw [HV7.out]
          obtain ⟨Y, hY⟩ : ∃ Y, wo.heap.size = Y := ⟨_, rfl⟩
          rw [hY] at HKC ⊢
          clear HV7 hY c0 c1
          obtain ⟨d0, d1⟩ := SA3.out.cells
          obtain ⟨⟨e0, e1⟩, _⟩ := box_two HKC.out
          go_wp2_with fail
          clear d0 d1 e0 e1
          refine D2.out.mono ?_
          rintro e w8 ⟨rfl, hb8⟩
          have HW8 := Lib.hid (below_on HW7.out hb8)
          have hM8 := HM3.out.below hb8
          have hlook := hM8.look lawRC Try.underlying59 Try.underlying3 (zeroRC _) HKY.out
          rw [HOO.out] at hlook
          obtain ⟨⟨e0, e1⟩, _⟩ := box_two (kept hb8 HKC.out)
          clear hb8 hM8 D2 HW7 HM3 SA3 HKC
          go_wp2_with fail
          go_roundg (en - (j + 1))
          case measure => have := HJ2.out; omega
          case rel => exact ⟨j + 1, by omega, by go_num, HW8⟩
        · obtain rfl : j = en := by omega
          have HBZ := Lib.hid (below_on HB7.out HW.out)
          go_wp2
          go_ret
          exact ⟨rfl, HBZ.out⟩

set_option maxRecDepth 100000 in
theorem lifted (os : Os) (started : os.Started) (H : Type) (enc : TypeId × Value → H) :
    ReturnsInHanded {} Try.checked os 5 .any (Rows.tableLowSpec.pre6 enc Try.prog Try.f5 Rows.tableLowRow.domain false) (Rows.tableLowSpec.post enc Try.prog Try.f5 false true false false) := by
  refine returnsInHanded_of_change_sized (C := Try.checked) own started (by kernel_rfl) Try.func5
    (ChangeSpec.witness6 (enc := enc) (C := Try.checked) false ⟨#[], #[.int .i64 0, .int .i64 0, .slice none 0 0, .int .i64 0], []⟩ 8 (by kernel_rfl) (by kernel_rfl) (by kernel_rfl) (by kernel_rfl)) ?_
  intro W base args ds gs before hval0 hW hcnd hsz0 _
  have hval : ∀ (j : Nat) t v, Try.f5.params[j]? = some t → args[j]? = some v → Value.okWide Try.prog W .any base t v := hval0
  have hW' := hW
  obtain ⟨p, q, hA0, hV, rfl, hfz, hnd⟩ := hW
  have hA : DataW.TrodAll enc Try.prog W 0 (fun _ => true) true Try.f5.params.toList args.toList ds p := hA0
  have hsz : (DataW.weightsEach Try.prog (Try.f5.params.toList ++ Rows.tableLowSpec.plain.varTypes Try.prog) (ds ++ gs)).all (· ≤ reachBytes) = true := hsz0
  rw [Try.params5] at hA hval hsz
  obtain ⟨v0, vs0, d0, ds0, p0, q0, hargs, rfl, rfl, h0, r0⟩ := trodAll_cons hA
  obtain ⟨v1, vs1, d1, ds1, p1, q1, rfl, rfl, rfl, h1, r1⟩ := trodAll_cons r0
  obtain ⟨v2, vs2, d2, ds2, p2, q2, rfl, rfl, rfl, h2, r2⟩ := trodAll_cons r1
  obtain ⟨v3, vs3, d3, ds3, p3, q3, rfl, rfl, rfl, h3, r3⟩ := trodAll_cons r2
  obtain ⟨rfl, rfl, rfl⟩ := trodAll_nil r3
  obtain rfl : args = #[v0, v1, v2, v3] := by cases args; simp_all
  obtain ⟨rfl, rfl⟩ := trodVars_none hV
  have k0 := h0
  have L0 := light_of hsz (j := 0) (t := 3) (d := d0) rfl rfl
  have lt0 : ∀ x ∈ p0, x.block < W.heap.size := by obtain ⟨m, hm⟩ := k0; exact DataW.trod_lt m _ _ _ hm
  obtain ⟨x0, rfl, rfl, rfl, w0⟩ := open_int Try.underlying3 (hval 0 3 v0 rfl rfl) h0
  have k1 := h1
  have L1 := light_of hsz (j := 1) (t := 3) (d := d1) rfl rfl
  have lt1 : ∀ x ∈ p1, x.block < W.heap.size := by obtain ⟨m, hm⟩ := k1; exact DataW.trod_lt m _ _ _ hm
  obtain ⟨x1, rfl, rfl, rfl, w1⟩ := open_int Try.underlying3 (hval 1 3 v1 rfl rfl) h1
  have k2 := h2
  have L2 := light_of hsz (j := 2) (t := 37) (d := d2) rfl rfl
  have lt2 : ∀ x ∈ p2, x.block < W.heap.size := by obtain ⟨m, hm⟩ := k2; exact DataW.trod_lt m _ _ _ hm
  obtain ⟨a2, len2, cap2, rfl⟩ := okWide_slice Try.underlying37 (hval 2 37 v2 rfl rfl)
  obtain ⟨n2, f2⟩ := trod_slice_of Try.underlying37 h2
  have F2 := And.intro f2 L2
  obtain ⟨x2, e2, t2, b2, o2⟩ := el_slice (w := W) (k := 1) slC (fun y : Sl Int => Tab W y.a y.len y.cap 1 (y.l.map iC) ∧ y.len * 8 ≤ 140737488351232 ∧ ∀ z ∈ y.l, wfI z) (by decide) Try.underlying37 (by kernel_rfl) (el_slice (k := 1) iC wfI (by decide) Try.underlying34 (by kernel_rfl) (el_int Try.underlying3) (B := 8) (by kernel_rfl)) (B := 24) (by kernel_rfl) _ _ _ F2.1 F2.2
  simp only [slC, List.cons.injEq, Value.slice.injEq, and_true] at e2
  obtain ⟨rfl, rfl, rfl⟩ := e2
  have k3 := h3
  have L3 := light_of hsz (j := 3) (t := 3) (d := d3) rfl rfl
  have lt3 : ∀ x ∈ p3, x.block < W.heap.size := by obtain ⟨m, hm⟩ := k3; exact DataW.trod_lt m _ _ _ hm
  obtain ⟨x3, rfl, rfl, rfl, w3⟩ := open_int Try.underlying3 (hval 3 3 v3 rfl rfl) h3
  clear hA0 hval0
  refine (walk x0 x1 x2 x3 W w0 w1 t2 b2 o2 w3).mono fun e W' ⟨he, hg⟩ => ?_
  subst he
  exact ⟨_, rfl, _, _, _, [], _, [], hW', trodAll_mk1 (shut_bool Try.underlying4 _), (trodAll_cons_mk (Below.trod laidOut (by kernel_rfl) (of_decide_eq_true (by kernel_rfl)) k0 hg lt0) (trodAll_cons_mk (Below.trod laidOut (by kernel_rfl) (of_decide_eq_true (by kernel_rfl)) k1 hg lt1) (trodAll_cons_mk (Below.trod laidOut (by kernel_rfl) (of_decide_eq_true (by kernel_rfl)) k2 hg lt2) (trodAll_cons_mk (Below.trod laidOut (by kernel_rfl) (of_decide_eq_true (by kernel_rfl)) k3 hg lt3) trodAll_mk0)))), rfl, hg.frame _, fun h => by cases h⟩

theorem over : Rows.tableLowRow.holds Try.pinned (OpenSpec.ofChange Rows.tableLowSpec) :=
  OpenClaim.holds_of_wide 5 Try.f5 rfl rfl rfl rfl rfl rfl rfl ⟨rfl, rfl, rfl, rfl, rfl⟩ rfl rfl rfl rfl rfl (by kernel_rfl) Try.func5 (by kernel_rfl)
    (of_decide_eq_true (by kernel_rfl)) (by unfold Func.isWrapper; first | (rw [if_pos (by decide +kernel)]; kernel_rfl) | (rw [if_neg (by decide +kernel)]; exact ⟨rfl, rfl⟩))
    (fun os started H enc _ => lifted os started H enc)

/-- ████ THE STATEMENT ████ -/
theorem proved : Rows.TableLowSaid :=
  over
#print axioms proved
end Go.Proofs.Ytcfejbhoeichnaa.tableLow
