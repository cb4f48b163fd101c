/-
  'Rows.RegsSameSaid' is proved: order, repetition and grouping of the values that are put have no effect on the registers. No condition.
-/
import Derived.Test.YtffgoekdjcempaaRows
import Derived.Test.YtffgoekdjcempaaShapes
import Derived.Test.YtffgoekdjcempaaRegsFill
import Derived.Test.YtffgoekdjcempaaEqualInts
import Derived.Test.YtffgoekdjcempaaConcatInts
import Derived.Test.YtffgoekdjcempaaLit
import Derived.Deep.DeepCutAuto
import Derived.BigQuiet
import Derived.Deep.QuietTactic
import Derived.RegionTactic
import Derived.BigRegion
import Derived.WalkKit
import Derived.ProofKit
import Derived.OpenShut
import Derived.ShutString
import Derived.ChangeOld
import Derived.Below
namespace Go.Proofs.Ytffgoekdjcempaa.regsSame
open Go.ChangeShapes Go.WideShapes Go.ChangeAt Go.RowKit
open Go.ChangeMaps (open_string shut_string)
set_option linter.unusedVariables false

theorem own : ownKnob Try.prog.godebug = none := by kernel_rfl
theorem laidOut : laidOutB Try.prog = true := by kernel_rfl

open Regs
theorem lit_put : putE [0] 0 = 0 ∧ putL [0] 0 = [57] := by decide +kernel
theorem vals_append {A B : List Int} (h : A.length + B.length ≤ 200) : valsL (A ++ B) = valsL A ++ valsL B := by
  unfold valsL
  rw [List.take_of_length_le (by rw [List.length_append]; omega), List.take_of_length_le (by omega), List.take_of_length_le (by omega), List.map_append]
theorem vals_turned {N t : Nat} {A B : List Int} (h : A.length + B.length ≤ 200) : regL N (valsL (A.drop t ++ (B ++ A.take t))) = regL N (valsL A ++ valsL B) := by
  have hd : (A.drop t).length + (A.take t).length = A.length := by rw [List.length_drop, List.length_take]; omega
  refine regL_same fun j => ?_
  rw [vals_append (by rw [List.length_append]; omega), vals_append (by omega), bigN_append, bigN_append, bigN_append]
  have e : bigN (N : Int) j (valsL A) = max (bigN (N : Int) j (valsL (A.take t))) (bigN (N : Int) j (valsL (A.drop t))) := by
    rw [← bigN_append, ← vals_append (by omega), List.take_append_drop]
  rw [e]
  omega
theorem tab_held {W : World} {X n : Nat} {cs : Array Value} {R : List (List Value)} {t : TypeId} (hX : W.heap[X]? = some (.cells cs t (0, 0))) (hr : ∀ r ∈ R, r.length = 1) (hc : cs.toList = R.flatten := by rfl) (hn : R.length = n := by rfl) (hm : n ≤ maxLen := by decide) : Tab W (some ⟨X, 0, none⟩) n n 1 R := by
  refine ⟨hn, Nat.le_refl _, hm, fun h => (by cases h), fun _ => ⟨X, 0, rfl, (Array.getElem?_eq_some_iff.1 hX).1, fun i r hri j u hu => ?_⟩⟩
  have h := flatten_get hr hri hu
  rw [← hc] at h
  rw [Nat.zero_add]
  exact cell_blk hX (by rw [← Array.getElem?_toList]; exact h)
theorem drew_below {w w' : World} (h : Below w.heap.size w.drew w') : Below w.heap.size w w' := (Below.refl _ _).drew.trans h

set_option maxRecDepth 100000 in
set_option maxHeartbeats 2000000 in
theorem walk (x0 : Int) (x1 : Sl Int) (x2 : Sl Int) (x3 : Int) (w : World) (w0 : (Lit.int .i64 x0).wf = true) (t1 : Tab w x1.a x1.len x1.cap 1 (x1.l.map iC)) (b1 : x1.len * 8 ≤ 140737488351232) (o1 : ∀ z ∈ x1.l, wfI z) (t2 : Tab w x2.a x2.len x2.cap 1 (x2.l.map iC)) (b2 : x2.len * 8 ≤ 140737488351232) (o2 : ∀ z ∈ x2.l, wfI z) (w3 : (Lit.int .i64 x3).wf = true) :
    Calls Try.prog 8 #[.int .i64 x0, .slice x1.a x1.len x1.cap, .slice x2.a x2.len x2.cap, .int .i64 x3] w fun e w' => e = .returned (.bool true) ∧ Below w.heap.size w w' := by
  obtain ⟨a, len, cap, L⟩ := x1
  obtain ⟨b, len1, cap1, M⟩ := x2
  have hm : cap ≤ 9223372036854775807 := by have h := t1.hmax; unfold maxLen at h; simpa using h
  have hle : len ≤ cap := t1.hle
  have hm1 : cap1 ≤ 9223372036854775807 := by have h := t2.hmax; unfold maxLen at h; simpa using h
  have hle1 : len1 ≤ cap1 := t2.hle
  obtain ⟨nl, hnl⟩ : ∃ n, min len 100 = n := ⟨_, rfl⟩
  obtain ⟨nm, hnm⟩ : ∃ n, min len1 100 = n := ⟨_, rfl⟩
  have hnl1 : nl ≤ len := by omega
  have hnl2 : nl ≤ 100 := by omega
  have hnm1 : nm ≤ len1 := by omega
  have hnm2 : nm ≤ 100 := by omega
  have hmin1 : min (len : Int) 100 = (nl : Int) := by omega
  have hmin2 : min (len1 : Int) 100 = (nm : Int) := by omega
  have HMIN := Lib.hid (And.intro hmin1 hmin2)
  have hl : L.length = len := by have h := t1.hlen; rw [List.length_map] at h; exact h
  have hl1 : M.length = len1 := by have h := t2.hlen; rw [List.length_map] at h; exact h
  have hT1 : Tab w a nl cap 1 ((L.take nl).map iC) := by have h := t1.upto_ nl hnl1; rw [← List.map_take] at h; exact h
  have hT2 : Tab w b nm cap1 1 ((M.take nm).map iC) := by have h := t2.upto_ nm hnm1; rw [← List.map_take] at h; exact h
  have hw1 : ∀ z ∈ L.take nl, wfI z := fun z hz => o1 z (List.mem_of_mem_take hz)
  have hw2 : ∀ z ∈ M.take nm, wfI z := fun z hz => o2 z (List.mem_of_mem_take hz)
  have hlA : (L.take nl).length = nl := by rw [List.length_take]; omega
  have hlB : (M.take nm).length = nm := by rw [List.length_take]; omega
  clear hnl hnm hl hl1 hmin1 hmin2 t1 t2 o1 o2 b1 b2
  generalize L.take nl = LL at *
  generalize M.take nm = MM at *
  have b0 : Below w.heap.size w (w.alloc (.cells #[.int .i64 0] 3)) := (Below.refl _ _).alloc (Nat.le_refl _) _
  have C0 := regsPut_any (some ⟨w.heap.size, 0, none⟩) 1 1 [0] 0 _ (tab_lit w 3 1 1 ([(0 : Int)].map iC) #[.int .i64 0] rfl rfl (rows_of iC_len _) (by decide) _ rfl)
  rw [lit_put.1, lit_put.2] at C0
  have HC0 := Lib.hid C0
  have HB0 := Lib.hid b0
  have d1 := withI_bd x3 ((nl : Int) + 1) (by omega)
  have HW1 := Lib.hid (fun W => within_int x3 ((nl : Int) + 1) W (wf_i64 w3) (by omega) (by omega))
  generalize withI x3 ((nl : Int) + 1) = K1 at *
  obtain ⟨tt, rfl⟩ := Int.eq_ofNat_of_zero_le d1.1
  have htt : tt ≤ nl := by omega
  have wn := wf_i64 w0
  have HNN := numN_ok x0
  have HFA := Lib.hid (fun W (hb : Below w.heap.size w W) => regsFill_any x0 a nl cap LL W wn (hT1.below hb) hw1)
  have HFB := Lib.hid (fun W (hb : Below w.heap.size w W) => regsFill_any x0 b nm cap1 MM W wn (hT2.below hb) hw2)
  have HFC : Hid (∀ (W : World) (q : Option Addr) (n c : Nat) (hT : Tab W q n c 1 ((LL ++ MM).map iC)), Calls Try.prog 37 #[.int .i64 x0, .slice q n c] W fun e w' => ∃ v, e = .returned (.tuple #[v, .bool true]) ∧ Own w' W.heap.size 3 1 v ((regL (numN x0) (valsL LL ++ valsL MM)).map iC) ∧ Below W.heap.size W w') := Lib.hid (fun W q n c hT => by
    have h := regsFill_any x0 q n c (LL ++ MM) W wn hT (fun z hz => by rcases List.mem_append.1 hz with h | h; exact hw1 z h; exact hw2 z h)
    rw [vals_append (by omega)] at h
    exact h)
  have HFD : Hid (∀ (W : World) (q : Option Addr) (n c : Nat) (hT : Tab W q n c 1 ((LL.drop tt ++ (MM ++ LL.take tt)).map iC)), Calls Try.prog 37 #[.int .i64 x0, .slice q n c] W fun e w' => ∃ v, e = .returned (.tuple #[v, .bool true]) ∧ Own w' W.heap.size 3 1 v ((regL (numN x0) (valsL LL ++ valsL MM)).map iC) ∧ Below W.heap.size W w') := Lib.hid (fun W q n c hT => by
    have h := regsFill_any x0 q n c (LL.drop tt ++ (MM ++ LL.take tt)) W wn hT (fun z hz => by rcases List.mem_append.1 hz with h | h; exact hw1 z (List.mem_of_mem_drop h); rcases List.mem_append.1 h with h | h; exact hw2 z h; exact hw1 z (List.mem_of_mem_take h))
    rw [vals_turned (by omega)] at h
    exact h)
  have HT1 := Lib.hid hT1
  have HT2 := Lib.hid hT2
  have HJ1 := Lib.hid (joinL_reg HNN (valsL LL) (valsL MM))
  have hj2 := joinL_reg HNN (valsL MM) (valsL LL)
  rw [regL_same (N := numN x0) (L := valsL MM ++ valsL LL) (M := valsL LL ++ valsL MM) (fun j => by rw [bigN_append, bigN_append]; omega)] at hj2
  have HJ2 := Lib.hid hj2
  have hj3 := joinL_reg HNN (valsL LL ++ valsL MM) (valsL LL)
  rw [regL_same (N := numN x0) (L := valsL LL ++ valsL MM ++ valsL LL) (M := valsL LL ++ valsL MM) (fun j => by rw [bigN_append, bigN_append]; omega)] at hj3
  have HJ3 := Lib.hid hj3
  have HLA := Lib.hid (regL_len (numN x0) (valsL LL))
  have HLB := Lib.hid (regL_len (numN x0) (valsL MM))
  have HLC := Lib.hid (regL_len (numN x0) (valsL LL ++ valsL MM))
  generalize regL (numN x0) (valsL LL ++ valsL MM) = CC at *
  generalize regL (numN x0) (valsL LL) = AA at *
  generalize regL (numN x0) (valsL MM) = BB at *
  generalize numN x0 = N at *
  clear C0 b0 d1 w0 w3 hT1 hT2 hw1 hw2 hj2 hj3 wn HNN
  go_enter Try.func8, Try.ntmps8
  go_wp2_with fail
  refine HC0.out.mono ?_
  rintro e v1 ⟨q, rfl, hO1, hb1⟩
  obtain ⟨aq, cq, rfl, hTq⟩ := own_ints (K := 1) hO1 rfl
  have HB1 := Lib.hid (below_on HB0.out hb1)
  have hal : Below v1.heap.size v1 (v1.alloc (.cells #[.int .i64 57] 3)) := (Below.refl _ _).alloc (Nat.le_refl _) _
  have C2 := Lib.hid (equal_ints aq (some ⟨v1.heap.size, 0, none⟩) _ cq 1 1 [57] [57] (v1.alloc (.cells #[.int .i64 57] 3)) (hTq.below hal) (tab_lit v1 3 1 1 ([(57 : Int)].map iC) #[.int .i64 57] rfl rfl (rows_of iC_len _) (by decide) _ rfl) true (by simp))
  have HAL := Lib.hid hal
  clear hO1 hTq hb1 hal HC0 HB0
  go_wp2_with fail
  refine C2.out.mono ?_
  rintro e v3 ⟨rfl, hb3⟩
  have HB3 := Lib.hid (below_on HB1.out (below_on HAL.out hb3))
  clear hb3 HAL HB1 C2
  go_upto_region 4 with fail
  have hmin1 := HMIN.out.1
  have hmin2 := HMIN.out.2
  have rU1 := run_upto 22 3 1 Try.underlying22 elem_int1 size_int1 a len cap nl (by omega)
  have rU2 := run_upto 22 3 1 Try.underlying22 elem_int1 size_int1 b len1 cap1 nm (by omega)
  go_cut [1, 2] (fun s t wx => s = .slice a nl cap ∧ t = .slice b nm cap1 ∧ Hid (Below v3.heap.size v3 wx))
  case first =>
    go_wp2_with fail
    go_quiet (fail)
    go_wp2_with fail
    go_meet
    case rel => exact ⟨rfl, rfl, Lib.hid (below_drewN (Below.refl _ _) _)⟩
  case rest =>
  obtain ⟨rfl, rfl, HBQ⟩ := hcut
  have HB4 := Lib.hid (below_on HB3.out HBQ.out)
  clear rU1 rU2 hmin1 hmin2 HMIN HB3 HBQ
  go_wp2_with fail
  refine (HW1.out _).mono ?_
  rintro e v4 ⟨rfl, hv4⟩
  rw [← hv4]
  clear hv4 HW1
  go_wp2_with fail
  refine (HFA.out _ HB4.out).mono ?_
  rintro e v5 ⟨qv6, rfl, hO, hb⟩
  obtain ⟨aA, cA, rfl, hT⟩ := own_ints hO HLA.out
  have SA := Lib.hid hT
  have HB_5 := Lib.hid (below_on HB4.out hb)
  clear hO hT hb HFA HB4
  go_wp2_with fail
  refine (HFB.out _ HB_5.out).mono ?_
  rintro e v7 ⟨qv8, rfl, hO, hb⟩
  obtain ⟨aB, cB, rfl, hT⟩ := own_ints hO HLB.out
  have SB := Lib.hid hT
  replace SA := Lib.hid (SA.out.below hb)
  have HB_8 := Lib.hid (below_on HB_5.out hb)
  clear hO hT hb HFB HB_5
  obtain ⟨v8, hv8⟩ : ∃ v8, v8 = v7 := ⟨_, rfl⟩
  subst hv8
  have hlit2 : Tab (v8.alloc (.cells #[.slice a nl cap, .slice b nm cap1] 22)) (some ⟨v8.heap.size, 0, none⟩) 2 2 1 (([⟨a, nl, cap, LL⟩, ⟨b, nm, cap1, MM⟩] : List (Sl Int)).map slC) := tab_lit v8 22 1 2 (([⟨a, nl, cap, LL⟩, ⟨b, nm, cap1, MM⟩] : List (Sl Int)).map slC) #[.slice a nl cap, .slice b nm cap1] rfl rfl (by intro r hr; obtain ⟨y, _, rfl⟩ := List.mem_map.1 hr; rfl) (by decide) _ rfl
  have hbl : Below v8.heap.size v8 (v8.alloc (.cells #[.slice a nl cap, .slice b nm cap1] 22)) := (Below.refl _ _).alloc (Nat.le_refl _) _
  have HB9 := Lib.hid (below_on HB_8.out hbl)
  have CC9 := Lib.hid (concat_ints _ 2 2 _ _ hlit2 (by
    intro s hs
    rcases List.mem_cons.1 hs with rfl | hs
    · exact HT1.out.below HB9.out
    · obtain rfl := List.mem_singleton.1 hs
      exact HT2.out.below HB9.out) (by simp; omega))
  replace SA := Lib.hid (SA.out.below hbl)
  replace SB := Lib.hid (SB.out.below hbl)
  clear hlit2 hbl HB_8
  go_wp2_with fail
  refine CC9.out.mono ?_
  rintro e v9 ⟨qc, rfl, hOc, hbc⟩
  obtain ⟨ac, cc, rfl, hTc⟩ := hOc.tab
  have HBc := Lib.hid (below_on HB9.out hbc)
  replace SA := Lib.hid (SA.out.below hbc)
  replace SB := Lib.hid (SB.out.below hbc)
  have hfl : (([⟨a, nl, cap, LL⟩, ⟨b, nm, cap1, MM⟩] : List (Sl Int)).flatMap (·.l)) = LL ++ MM := by simp
  rw [hfl] at hTc ⊢
  obtain ⟨nc, hnc⟩ : ∃ n, ((LL ++ MM).map iC).length = n := ⟨_, rfl⟩
  rw [hnc] at hTc ⊢
  clear hnc
  have CF9 := Lib.hid (HFC.out v9 ac nc cc hTc)
  clear hfl hOc hbc hTc CC9 HB9 HFC
  go_wp2_with fail
  refine (CF9.out).mono ?_
  rintro e v11 ⟨qv11, rfl, hO, hb⟩
  obtain ⟨aC, cC, rfl, hT⟩ := own_ints hO HLC.out
  have SC := Lib.hid hT
  replace SA := Lib.hid (SA.out.below hb)
  replace SB := Lib.hid (SB.out.below hb)
  have HB_v11 := Lib.hid (below_on HBc.out hb)
  clear hO hT hb CF9 HBc
  go_upto_region 9 with fail
  have hle0 : nl ≤ cap := HT1.out.hle
  have rU1 := run_from 22 3 1 Try.underlying22 elem_int1 size_int1 a nl cap tt htt
  have rU2 := run_upto 22 3 1 Try.underlying22 elem_int1 size_int1 a nl cap tt (by omega)
  have HT3 := Lib.hid (HT1.out.from_ tt htt)
  have HT4 := Lib.hid (HT1.out.upto_ tt htt)
  have HCT : Hid (∀ (W : World) (X : Nat), Below v11.heap.size v11 W → W.heap[X]? = some (.cells #[.slice (fromA a cap tt 1) (nl - tt) (cap - tt), .slice b nm cap1, .slice a tt cap] 22 (0, 0)) → Calls Try.prog 36 #[.slice (some ⟨X, 0, none⟩) 3 3] W (RetRows W 3 1 ((LL.drop tt ++ (MM ++ LL.take tt)).map iC))) := Lib.hid (by
    intro W X hb hX
    have hbw := below_on HB_v11.out hb
    have hS : Tab W (some ⟨X, 0, none⟩) 3 3 1 (([⟨fromA a cap tt 1, nl - tt, cap - tt, LL.drop tt⟩, ⟨b, nm, cap1, MM⟩, ⟨a, tt, cap, LL.take tt⟩] : List (Sl Int)).map slC) := tab_held hX (by intro r hr; obtain ⟨y, _, rfl⟩ := List.mem_map.1 hr; rfl)
    have h := concat_ints _ 3 3 _ W hS (by
      intro s hs
      rcases List.mem_cons.1 hs with rfl | hs
      · have := HT3.out.below hbw; rw [← List.map_drop] at this; exact this
      rcases List.mem_cons.1 hs with rfl | hs
      · exact HT2.out.below hbw
      · obtain rfl := List.mem_singleton.1 hs
        have := HT4.out.below hbw; rw [← List.map_take] at this; exact this) (by simp; omega)
    rw [show (([⟨fromA a cap tt 1, nl - tt, cap - tt, LL.drop tt⟩, ⟨b, nm, cap1, MM⟩, ⟨a, tt, cap, LL.take tt⟩] : List (Sl Int)).flatMap (·.l)) = LL.drop tt ++ (MM ++ LL.take tt) by simp] at h
    exact h)
  have HX1 : Hid ((v11.alloc (.cells #[.slice (fromA a cap tt 1) (nl - tt) (cap - tt), .slice b nm cap1, .slice a tt cap] 22)).heap[v11.heap.size]? = some (.cells #[.slice (fromA a cap tt 1) (nl - tt) (cap - tt), .slice b nm cap1, .slice a tt cap] 22 (0, 0))) := Lib.hid (MapKept.heap_alloc v11 _).1
  obtain ⟨QQ, hQQ⟩ : ∃ Q, (LL.drop tt ++ (MM ++ LL.take tt)).map iC = Q := ⟨_, rfl⟩
  have HFD := HFD.out
  rw [hQQ] at HFD
  rw [hQQ] at HCT
  replace HFD := Lib.hid HFD
  clear hQQ HT3 HT4 hle0
  go_cut [17, 18] (fun p e wx => ∃ (cD : Nat) (aD : Option Addr), p = .slice aD N cD ∧ e = .bool true ∧ Hid (Tab wx aD N cD 1 (CC.map iC)) ∧ Hid (Below v11.heap.size v11 wx))
  case first =>
    go_wp2_with fail
    go_region_with (first | (go_at_call 36; refine Calls.mono (HCT.out _ _ ?_ HX1.out) ?_; (first | exact ((Below.refl _ _).alloc (Nat.le_refl _) _).drew | exact (Below.refl _ _).alloc (Nat.le_refl _) _); rintro e w5 ⟨q5, rfl, hO5, hb5⟩; obtain ⟨a5, c5, rfl, hT5⟩ := hO5.tab; obtain ⟨n5, hn5⟩ : ∃ n, QQ.length = n := ⟨_, rfl⟩; rw [hn5] at hT5 ⊢; clear hn5) | (go_at_call 37; refine Calls.mono (HFD.out _ _ _ _ ?_) ?_; (first | exact hT5 | exact hT5.below ((Below.refl _ _).drew)); rintro e w6 ⟨q6, rfl, hO6, hb6⟩; obtain ⟨a6, c6, rfl, hT6⟩ := own_ints hO6 HLC.out))
    all_goals
      go_wp2_with fail
      have hb5w : Below v11.heap.size v11 w5 := (((Below.refl _ _).alloc (Nat.le_refl _) _).drew).trans (hb5.mono (by simp))
      have hbw : Below v11.heap.size v11 w6 := below_on hb5w hb6
      go_meet
      case rel => exact ⟨_, _, rfl, rfl, Lib.hid hT6, Lib.hid hbw⟩
  case rest =>
  obtain ⟨cD, aD, rfl, rfl, SD, HBD⟩ := hcut
  clear rU1 rU2 HX1 HCT HFD
  have HBW := Lib.hid (below_on HB_v11.out HBD.out)
  replace SA := Lib.hid (SA.out.below HBD.out)
  replace SB := Lib.hid (SB.out.below HBD.out)
  replace SC := Lib.hid (SC.out.below HBD.out)
  obtain ⟨wq, hwq⟩ : ∃ wq, wq = wc := ⟨_, rfl⟩
  subst hwq
  clear HBD HB_v11
  have CJ := regsJoin_any aA aB N cA N cB AA BB wq SA.out SB.out
  rw [HJ1.out.1, HJ1.out.2] at CJ
  replace CJ := Lib.hid CJ
  go_wp2_with fail
  refine CJ.out.mono ?_
  rintro e v12 ⟨qv13, rfl, hO, hb⟩
  obtain ⟨aE, cE, rfl, hT⟩ := own_ints hO HLC.out
  have SE := Lib.hid hT
  replace SA := Lib.hid (SA.out.below hb)
  replace SB := Lib.hid (SB.out.below hb)
  replace SC := Lib.hid (SC.out.below hb)
  replace SD := Lib.hid (SD.out.below hb)
  replace HBW := Lib.hid (below_on HBW.out hb)
  clear hb hO hT CJ
  have CJ := regsJoin_any aB aA N cB N cA BB AA v12 SB.out SA.out
  rw [HJ2.out.1, HJ2.out.2] at CJ
  replace CJ := Lib.hid CJ
  go_wp2_with fail
  refine CJ.out.mono ?_
  rintro e v13 ⟨qv13, rfl, hO, hb⟩
  obtain ⟨aF, cF, rfl, hT⟩ := own_ints hO HLC.out
  have SF := Lib.hid hT
  replace SA := Lib.hid (SA.out.below hb)
  replace SC := Lib.hid (SC.out.below hb)
  replace SD := Lib.hid (SD.out.below hb)
  replace SE := Lib.hid (SE.out.below hb)
  replace HBW := Lib.hid (below_on HBW.out hb)
  clear hb hO hT CJ
  have CJ := regsJoin_any aE aA N cE N cA CC AA v13 SE.out SA.out
  rw [HJ3.out.1, HJ3.out.2] at CJ
  replace CJ := Lib.hid CJ
  go_wp2_with fail
  refine CJ.out.mono ?_
  rintro e v14 ⟨qv13, rfl, hO, hb⟩
  obtain ⟨aG, cG, rfl, hT⟩ := own_ints hO HLC.out
  have SG := Lib.hid hT
  replace SC := Lib.hid (SC.out.below hb)
  replace SD := Lib.hid (SD.out.below hb)
  replace SE := Lib.hid (SE.out.below hb)
  replace SF := Lib.hid (SF.out.below hb)
  replace HBW := Lib.hid (below_on HBW.out hb)
  clear hb hO hT CJ
  have CE := Lib.hid (equal_ints aE aC N cE N cC CC CC v14 SE.out SC.out true (by simp))
  go_wp2_with fail
  refine CE.out.mono ?_
  rintro e v15 ⟨rfl, hb⟩
  replace HBW := Lib.hid (below_on HBW.out hb)
  replace SC := Lib.hid (SC.out.below hb)
  replace SD := Lib.hid (SD.out.below hb)
  replace SF := Lib.hid (SF.out.below hb)
  replace SG := Lib.hid (SG.out.below hb)
  clear hb CE
  have CE := Lib.hid (equal_ints aF aC N cF N cC CC CC v15 SF.out SC.out true (by simp))
  go_wp2_with fail
  refine CE.out.mono ?_
  rintro e v16 ⟨rfl, hb⟩
  replace HBW := Lib.hid (below_on HBW.out hb)
  replace SC := Lib.hid (SC.out.below hb)
  replace SD := Lib.hid (SD.out.below hb)
  replace SG := Lib.hid (SG.out.below hb)
  clear hb CE
  have CE := Lib.hid (equal_ints aG aC N cG N cC CC CC v16 SG.out SC.out true (by simp))
  go_wp2_with fail
  refine CE.out.mono ?_
  rintro e v17 ⟨rfl, hb⟩
  replace HBW := Lib.hid (below_on HBW.out hb)
  replace SC := Lib.hid (SC.out.below hb)
  replace SD := Lib.hid (SD.out.below hb)
  clear hb CE
  have CE := Lib.hid (equal_ints aD aC N cD N cC CC CC v17 SD.out SC.out true (by simp))
  go_wp2_with fail
  refine CE.out.mono ?_
  rintro e v18 ⟨rfl, hb⟩
  replace HBW := Lib.hid (below_on HBW.out hb)
  clear hb CE
  go_wp2
  go_ret
  exact ⟨rfl, HBW.out⟩

set_option maxRecDepth 100000 in
theorem lifted (os : Os) (started : os.Started) (H : Type) (enc : TypeId × Value → H) :
    ReturnsInHanded {} Try.checked os 8 .any (Rows.regsSameSpec.pre6 enc Try.prog Try.f8 Rows.regsSameRow.domain false) (Rows.regsSameSpec.post enc Try.prog Try.f8 false true false false) := by
  refine returnsInHanded_of_change_sized (C := Try.checked) own started (by kernel_rfl) Try.func8
    (ChangeSpec.witness6 (enc := enc) (C := Try.checked) false ⟨#[], #[.int .i64 0, .slice none 0 0, .slice none 0 0, .int .i64 0], []⟩ 8 (by kernel_rfl) (by kernel_rfl) (by kernel_rfl) (by kernel_rfl)) ?_
  intro W base args ds gs before hval0 hW hcnd hsz0 _
  have hval : ∀ (j : Nat) t v, Try.f8.params[j]? = some t → args[j]? = some v → Value.okWide Try.prog W .any base t v := hval0
  have hW' := hW
  obtain ⟨p, q, hA0, hV, rfl, hfz, hnd⟩ := hW
  have hA : DataW.TrodAll enc Try.prog W 0 (fun _ => true) true Try.f8.params.toList args.toList ds p := hA0
  have hsz : (DataW.weightsEach Try.prog (Try.f8.params.toList ++ Rows.regsSameSpec.plain.varTypes Try.prog) (ds ++ gs)).all (· ≤ reachBytes) = true := hsz0
  rw [Try.params8] at hA hval hsz
  obtain ⟨v0, vs0, d0, ds0, p0, q0, hargs, rfl, rfl, h0, r0⟩ := trodAll_cons hA
  obtain ⟨v1, vs1, d1, ds1, p1, q1, rfl, rfl, rfl, h1, r1⟩ := trodAll_cons r0
  obtain ⟨v2, vs2, d2, ds2, p2, q2, rfl, rfl, rfl, h2, r2⟩ := trodAll_cons r1
  obtain ⟨v3, vs3, d3, ds3, p3, q3, rfl, rfl, rfl, h3, r3⟩ := trodAll_cons r2
  obtain ⟨rfl, rfl, rfl⟩ := trodAll_nil r3
  obtain rfl : args = #[v0, v1, v2, v3] := by cases args; simp_all
  obtain ⟨rfl, rfl⟩ := trodVars_none hV
  have k0 := h0
  have L0 := light_of hsz (j := 0) (t := 3) (d := d0) rfl rfl
  have lt0 : ∀ x ∈ p0, x.block < W.heap.size := by obtain ⟨m, hm⟩ := k0; exact DataW.trod_lt m _ _ _ hm
  obtain ⟨x0, rfl, rfl, rfl, w0⟩ := open_int Try.underlying3 (hval 0 3 v0 rfl rfl) h0
  have k1 := h1
  have L1 := light_of hsz (j := 1) (t := 22) (d := d1) rfl rfl
  have lt1 : ∀ x ∈ p1, x.block < W.heap.size := by obtain ⟨m, hm⟩ := k1; exact DataW.trod_lt m _ _ _ hm
  obtain ⟨a1, len1, cap1, rfl⟩ := okWide_slice Try.underlying22 (hval 1 22 v1 rfl rfl)
  obtain ⟨n1, f1⟩ := trod_slice_of Try.underlying22 h1
  have F1 := And.intro f1 L1
  obtain ⟨x1, e1, t1, b1, o1⟩ := el_slice (w := W) (k := 1) iC wfI (by decide) Try.underlying22 (by kernel_rfl) (el_int Try.underlying3) (B := 8) (by kernel_rfl) _ _ _ F1.1 F1.2
  simp only [slC, List.cons.injEq, Value.slice.injEq, and_true] at e1
  obtain ⟨rfl, rfl, rfl⟩ := e1
  have k2 := h2
  have L2 := light_of hsz (j := 2) (t := 22) (d := d2) rfl rfl
  have lt2 : ∀ x ∈ p2, x.block < W.heap.size := by obtain ⟨m, hm⟩ := k2; exact DataW.trod_lt m _ _ _ hm
  obtain ⟨a2, len2, cap2, rfl⟩ := okWide_slice Try.underlying22 (hval 2 22 v2 rfl rfl)
  obtain ⟨n2, f2⟩ := trod_slice_of Try.underlying22 h2
  have F2 := And.intro f2 L2
  obtain ⟨x2, e2, t2, b2, o2⟩ := el_slice (w := W) (k := 1) iC wfI (by decide) Try.underlying22 (by kernel_rfl) (el_int Try.underlying3) (B := 8) (by kernel_rfl) _ _ _ F2.1 F2.2
  simp only [slC, List.cons.injEq, Value.slice.injEq, and_true] at e2
  obtain ⟨rfl, rfl, rfl⟩ := e2
  have k3 := h3
  have L3 := light_of hsz (j := 3) (t := 3) (d := d3) rfl rfl
  have lt3 : ∀ x ∈ p3, x.block < W.heap.size := by obtain ⟨m, hm⟩ := k3; exact DataW.trod_lt m _ _ _ hm
  obtain ⟨x3, rfl, rfl, rfl, w3⟩ := open_int Try.underlying3 (hval 3 3 v3 rfl rfl) h3
  clear hA0 hval0
  refine (walk x0 x1 x2 x3 W w0 t1 b1 o1 t2 b2 o2 w3).mono fun e W' ⟨he, hg⟩ => ?_
  subst he
  exact ⟨_, rfl, _, _, _, [], _, [], hW', trodAll_mk1 (shut_bool Try.underlying4 _), (trodAll_cons_mk (Below.trod laidOut (by kernel_rfl) (of_decide_eq_true (by kernel_rfl)) k0 hg lt0) (trodAll_cons_mk (Below.trod laidOut (by kernel_rfl) (of_decide_eq_true (by kernel_rfl)) k1 hg lt1) (trodAll_cons_mk (Below.trod laidOut (by kernel_rfl) (of_decide_eq_true (by kernel_rfl)) k2 hg lt2) (trodAll_cons_mk (Below.trod laidOut (by kernel_rfl) (of_decide_eq_true (by kernel_rfl)) k3 hg lt3) trodAll_mk0)))), rfl, hg.frame _, fun h => by cases h⟩

theorem over : Rows.regsSameRow.holds Try.pinned (OpenSpec.ofChange Rows.regsSameSpec) :=
  OpenClaim.holds_of_wide 8 Try.f8 rfl rfl rfl rfl rfl rfl rfl ⟨rfl, rfl, rfl, rfl, rfl⟩ rfl rfl rfl rfl rfl (by kernel_rfl) Try.func8 (by kernel_rfl)
    (of_decide_eq_true (by kernel_rfl)) (by unfold Func.isWrapper; first | (rw [if_pos (by decide +kernel)]; kernel_rfl) | (rw [if_neg (by decide +kernel)]; exact ⟨rfl, rfl⟩))
    (fun os started H enc _ => lifted os started H enc)

/-- ████ THE STATEMENT ████ -/
theorem proved : Rows.RegsSameSaid :=
  over
#print axioms proved
end Go.Proofs.Ytffgoekdjcempaa.regsSame
