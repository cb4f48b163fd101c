/-
  'Rows.BottomSaysSaid' is proved: whatever is handed in, Check, Put, Join and Many answer what the document says. No condition.
-/
import Derived.Test.YtfocmnjkoominaaRows
import Derived.Test.YtfocmnjkoominaaShapes
import Derived.Test.YtfocmnjkoominaaBottomBad
import Derived.Test.YtfocmnjkoominaaRefBottom
import Derived.Test.YtfocmnjkoominaaRefLeast
import Derived.Test.YtfocmnjkoominaaRefSame
import Derived.Test.YtfocmnjkoominaaConcatInts
import Derived.Test.YtfocmnjkoominaaCloneInts
import Derived.Test.YtfocmnjkoominaaStepRows
import Derived.Test.YtfocmnjkoominaaLit
import Derived.Deep.DeepCutAuto
import Derived.BigQuiet
import Derived.Deep.QuietTactic
import Derived.Deep.RegionWith
import Derived.Deep.RegionHeld3
import Derived.Deep.RegionHeldLaw
import Derived.WalkKit
import Derived.ProofKit
import Derived.OpenShut
import Derived.ShutString
import Derived.ChangeOld
import Derived.Below
namespace Go.Proofs.Ytfocmnjkoominaa.bottomSays
open Go.ChangeShapes Go.WideShapes Go.ChangeAt Go.RowKit
open Go.ChangeMaps (open_string shut_string)
set_option linter.unusedVariables false

theorem own : ownKnob Try.prog.godebug = none := by kernel_rfl
theorem laidOut : laidOutB Try.prog = true := by kernel_rfl

open Least
/-- a sketch in a block -/
def SKI (w : World) (X : Nat) (K : Int) (q : Option Addr) (n c : Nat) (L : List Int) : Prop := w.heap[X]? = some (.cells #[.int .i64 K, .slice q n c] 24 (0, 0)) ∧ Tab w q n c 1 (L.map iC)
theorem SKI.below {w w' : World} {X : Nat} {K : Int} {q : Option Addr} {n c : Nat} {L : List Int} (h : SKI w X K q n c L) (hb : Below w.heap.size w w') : SKI w' X K q n c L := ⟨kept_blk hb h.1, h.2.below hb⟩
theorem SKI.new {w : World} {base : Nat} {K : Int} {q : Option Addr} {n c : Nat} {L : List Int} (h : Own w base 3 1 (.slice q n c) (L.map iC)) : SKI (w.alloc (.cells #[.int .i64 K, .slice q n c] 24)) w.heap.size K q n c L ∧ Below w.heap.size w (w.alloc (.cells #[.int .i64 K, .slice q n c] 24)) :=
  ⟨⟨(MapKept.heap_alloc w _).1, (h.alloc _).tab_of⟩, (Below.refl _ _).alloc (Nat.le_refl _) _⟩
theorem SKI.cells {w : World} {X : Nat} {K : Int} {q : Option Addr} {n c : Nat} {L : List Int} (h : SKI w X K q n c L) : w.cell? ⟨X, 0, none⟩ = some (.int .i64 K) ∧ w.cell? ⟨X, 1, none⟩ = some (.slice q n c) := (two_cells h.1).1
theorem tab_held {W : World} {X n : Nat} {cs : Array Value} {R : List (List Value)} {t : TypeId} (hX : W.heap[X]? = some (.cells cs t (0, 0))) (hr : ∀ r ∈ R, r.length = 1) (hc : cs.toList = R.flatten := by rfl) (hn : R.length = n := by rfl) (hm : n ≤ maxLen := by decide) : Tab W (some ⟨X, 0, none⟩) n n 1 R := by
  refine ⟨hn, Nat.le_refl _, hm, fun h => (by cases h), fun _ => ⟨X, 0, rfl, (Array.getElem?_eq_some_iff.1 hX).1, fun i r hri j u hu => ?_⟩⟩
  have h := flatten_get hr hri hu
  rw [← hc] at h
  rw [Nat.zero_add]
  exact cell_blk hX (by rw [← Array.getElem?_toList]; exact h)
theorem nil_tab (w : World) : Tab w none 0 0 1 (([] : List Int).map iC) := (Own.nil w 0 3 1).tab_of

set_option maxRecDepth 100000 in
set_option maxHeartbeats 2000000 in
theorem walk (x0_0 : Int) (x0_1 : Sl Int) (x1_0 : Int) (x1_1 : Sl Int) (x2 : Int) (w : World) (w0_0 : (Lit.int .i64 x0_0).wf = true) (t0_1 : Tab w x0_1.a x0_1.len x0_1.cap 1 (x0_1.l.map iC)) (b0_1 : x0_1.len * 8 ≤ 140737488351232) (o0_1 : ∀ z ∈ x0_1.l, wfI z) (w1_0 : (Lit.int .i64 x1_0).wf = true) (t1_1 : Tab w x1_1.a x1_1.len x1_1.cap 1 (x1_1.l.map iC)) (b1_1 : x1_1.len * 8 ≤ 140737488351232) (o1_1 : ∀ z ∈ x1_1.l, wfI z) (w2 : (Lit.int .i64 x2).wf = true) :
    Calls Try.prog 3 #[.agg #[.int .i64 x0_0, .slice x0_1.a x0_1.len x0_1.cap], .agg #[.int .i64 x1_0, .slice x1_1.a x1_1.len x1_1.cap], .int .i64 x2] w fun e w' => e = .returned (.bool true) ∧ Below w.heap.size w w' := by
  obtain ⟨a, len, cap, l⟩ := x0_1
  obtain ⟨b, len2, cap2, m⟩ := x1_1
  have hT1 : Tab w a len cap 1 (l.map iC) := t0_1
  have hT2 : Tab w b len2 cap2 1 (m.map iC) := t1_1
  have hO1 : ∀ z ∈ l, wfI z := o0_1
  have hO2 : ∀ z ∈ m, wfI z := o1_1
  have hn2 := wf_i64 w2
  clear t0_1 t1_1 o0_1 o1_1 b0_1 b1_1 w0_0 w1_0 w2
  generalize x0_0 = K at *
  generalize x1_0 = K2 at *
  generalize x2 = n at *
  have HO1 := Lib.hid hO1
  have HO2 := Lib.hid hO2
  have HN := Lib.hid hn2
  have hbx : Below w.heap.size w ((w.alloc (.cells #[.int .i64 K, .slice a len cap] 24)).alloc (.cells #[.int .i64 K2, .slice b len2 cap2] 24)) := ((Below.refl _ _).alloc (Nat.le_refl _) _).alloc (by simp) _
  have SA0 : SKI ((w.alloc (.cells #[.int .i64 K, .slice a len cap] 24)).alloc (.cells #[.int .i64 K2, .slice b len2 cap2] 24)) w.heap.size K a len cap l := ⟨by rw [Below.heap_alloc _ _ _ (by simp)]; exact (MapKept.heap_alloc w _).1, hT1.below hbx⟩
  have SB0 : SKI ((w.alloc (.cells #[.int .i64 K, .slice a len cap] 24)).alloc (.cells #[.int .i64 K2, .slice b len2 cap2] 24)) (w.heap.size + 1) K2 b len2 cap2 m := ⟨by
    have := (MapKept.heap_alloc (w.alloc (.cells #[.int .i64 K, .slice a len cap] 24)) (.cells #[.int .i64 K2, .slice b len2 cap2] 24)).1
    simpa using this, hT2.below hbx⟩
  obtain ⟨v0, hv0⟩ : ∃ v, (w.alloc (.cells #[.int .i64 K, .slice a len cap] 24)).alloc (.cells #[.int .i64 K2, .slice b len2 cap2] 24) = v := ⟨_, rfl⟩
  rw [hv0] at hbx SA0 SB0
  have SA := Lib.hid SA0
  have SB := Lib.hid SB0
  have HB0 := Lib.hid hbx
  have HV0 := Lib.hid hv0
  have C1 := Lib.hid (fun W (hT : Tab W a len cap 1 (l.map iC)) => bput_all K a len cap l n W hT)
  have C2 := Lib.hid (fun W (hT : Tab W a len cap 1 (l.map iC)) (hT2 : Tab W b len2 cap2 1 (m.map iC)) => bjoin_all K K2 a b len cap len2 cap2 l m W hT hT2)
  have C3 := Lib.hid (fun W (hT : Tab W a len cap 1 (l.map iC)) => bmany_all K a len cap l W hT)
  have C4 := Lib.hid (fun W (hT : Tab W a len cap 1 (l.map iC)) => refBottom_any K a len cap l W hT)
  have C5 := Lib.hid (fun W (hT : Tab W a len cap 1 (l.map iC)) => bcheck_any K a len cap l W hT)
  have C6 := Lib.hid (fun W => bcheck_any 0 none 0 0 [] W (nil_tab W))
  rw [show bottomE 0 [] = 1 from by decide] at C6
  unfold bottomV at C1 C2 C3 C4 C5 C6
  clear hT1 hT2 hO1 hO2 hn2 hbx SA0 SB0 hv0
  go_enter Try.func3, Try.ntmps3
  go_upto_region 1 with fail
  rw [HV0.out]
  obtain ⟨XA, hXA⟩ : ∃ X, w.heap.size = X := ⟨_, rfl⟩
  have hXB : w.heap.size + 1 = XA + 1 := by rw [hXA]
  have HXA := Lib.hid hXA
  rw [hXA] at SA SB ⊢
  clear HV0 hXB hXA
  obtain ⟨ca0, ca1⟩ := SA.out.cells
  go_wp2_with fail
  clear ca0 ca1
  refine (C1.out _ SA.out.2).mono ?_
  rintro e v1 ⟨qv2, rfl, hO, hb⟩
  obtain ⟨aP, cP, rfl, _⟩ := hO.tab
  rw [List.length_map] at hO ⊢
  obtain ⟨nP, hnP⟩ : ∃ u, (putLB K l n).length = u := ⟨_, rfl⟩
  rw [hnP] at hO ⊢
  have hz := SKI.new (K := putKB K l n) hO
  have HBn := below_on (below_on HB0.out hb) hz.2
  replace SA := Lib.hid ((SA.out.below hb).below hz.2)
  replace SB := Lib.hid ((SB.out.below hb).below hz.2)
  obtain ⟨v2, hv⟩ : ∃ v, v1.alloc (.cells #[.int .i64 (putKB K l n), .slice aP nP cP] 24) = v := ⟨_, rfl⟩
  rw [hv] at hz HBn
  rw [hv] at SA
  rw [hv] at SB
  obtain ⟨XP, hX⟩ : ∃ X, v1.heap.size = X := ⟨_, rfl⟩
  rw [hX] at hz
  have SP := Lib.hid hz.1
  have HB_v2 := Lib.hid HBn
  have HVX := Lib.hid (And.intro hv hX)
  clear hz HBn hb hO hnP hv hX
  go_upto_region 2 with fail
  rw [HVX.out.1, HVX.out.2]
  clear HVX
  clear C1 HB0
  obtain ⟨ca0, ca1⟩ := SA.out.cells
  obtain ⟨cb0, cb1⟩ := SB.out.cells
  go_wp2_with fail
  clear ca0 ca1 cb0 cb1
  refine (C2.out _ SA.out.2 SB.out.2).mono ?_
  rintro e v3 ⟨qv4, rfl, hO, hb⟩
  obtain ⟨aJ, cJ, rfl, _⟩ := hO.tab
  rw [List.length_map] at hO ⊢
  obtain ⟨nJ, hnJ⟩ : ∃ u, (joinLB K l K2 m).length = u := ⟨_, rfl⟩
  rw [hnJ] at hO ⊢
  have hz := SKI.new (K := joinKB K l K2 m) hO
  have HBn := below_on (below_on HB_v2.out hb) hz.2
  replace SA := Lib.hid ((SA.out.below hb).below hz.2)
  replace SB := Lib.hid ((SB.out.below hb).below hz.2)
  replace SP := Lib.hid ((SP.out.below hb).below hz.2)
  obtain ⟨v4, hv⟩ : ∃ v, v3.alloc (.cells #[.int .i64 (joinKB K l K2 m), .slice aJ nJ cJ] 24) = v := ⟨_, rfl⟩
  rw [hv] at hz HBn
  rw [hv] at SA
  rw [hv] at SB
  rw [hv] at SP
  obtain ⟨XJ, hX⟩ : ∃ X, v3.heap.size = X := ⟨_, rfl⟩
  rw [hX] at hz
  have SJ := Lib.hid hz.1
  have HB_v4 := Lib.hid HBn
  have HVX := Lib.hid (And.intro hv hX)
  clear hz HBn hb hO hnJ hv hX
  go_upto_region 3 with fail
  rw [HVX.out.1, HVX.out.2]
  clear HVX
  clear C2 HB_v2
  obtain ⟨ca0, ca1⟩ := SA.out.cells
  go_wp2_with fail
  clear ca0 ca1
  refine (C3.out _ SA.out.2).mono ?_
  rintro e v5 ⟨rfl, hb⟩
  have HB5 := Lib.hid (below_on HB_v4.out hb)
  replace SA := Lib.hid (SA.out.below hb)
  replace SB := Lib.hid (SB.out.below hb)
  replace SP := Lib.hid (SP.out.below hb)
  replace SJ := Lib.hid (SJ.out.below hb)
  clear hb HB_v4 C3
  go_upto_region 4 with fail
  obtain ⟨ca0, ca1⟩ := SA.out.cells
  go_cut [13, 14] (fun s t wx => s = .int .i64 (bottomE K l) ∧ t = .int .i64 (bottomE K l) ∧ Hid (Below v5.heap.size v5 wx))
  case first =>
    go_wp2_with fail
    go_region_held3 (fun W => W.cell? ⟨XA, 0, none⟩ = some (.int .i64 K) ∧ W.cell? ⟨XA, 1, none⟩ = some (.slice a len cap)) (first | exact ⟨ca0, ca1⟩ | exact ⟨d0, d1⟩ | exact ⟨e0, e1⟩ | go_keep) (first
      | (go_at_call 11; refine Calls.mono (C4.out _ (SA.out.2.below ((Below.refl _ _).drew))) ?_; rintro e w6 ⟨rfl, hb6⟩; obtain ⟨d0, d1⟩ := (SA.out.below (drew_below hb6)).cells)
      | (go_at_call 11; refine Calls.mono (C4.out _ (SA.out.2.below (drew_below hb6))) ?_; rintro e w7 ⟨rfl, hb7⟩; obtain ⟨e0, e1⟩ := ((SA.out.below (drew_below hb6)).below hb7).cells))
    all_goals
      go_wp2_with fail
      go_meet
      case rel => exact ⟨rfl, rfl, Lib.hid (below_on (drew_below hb6) hb7)⟩
  case rest =>
  obtain ⟨rfl, rfl, HB6⟩ := hcut
  obtain ⟨v6, hv6⟩ : ∃ v6, v6 = wc := ⟨_, rfl⟩
  subst hv6
  have HBW := Lib.hid (below_on HB5.out HB6.out)
  replace SA := Lib.hid (SA.out.below HB6.out)
  replace SB := Lib.hid (SB.out.below HB6.out)
  replace SP := Lib.hid (SP.out.below HB6.out)
  replace SJ := Lib.hid (SJ.out.below HB6.out)
  clear HB6 HB5 C4 ca0 ca1
  obtain ⟨E, hE⟩ : ∃ x, bottomE K l = x := ⟨_, rfl⟩
  obtain ⟨PE, hPE⟩ : ∃ x, putEB K l n = x := ⟨_, rfl⟩
  obtain ⟨PK, hPK⟩ : ∃ x, putKB K l n = x := ⟨_, rfl⟩
  obtain ⟨PL, hPL⟩ : ∃ x, putLB K l n = x := ⟨_, rfl⟩
  obtain ⟨JE, hJE⟩ : ∃ x, joinEB K l K2 m = x := ⟨_, rfl⟩
  obtain ⟨JK, hJK⟩ : ∃ x, joinKB K l K2 m = x := ⟨_, rfl⟩
  obtain ⟨JL, hJL⟩ : ∃ x, joinLB K l K2 m = x := ⟨_, rfl⟩
  obtain ⟨MR, hMR⟩ : ∃ x, manyRB K l = x := ⟨_, rfl⟩
  obtain ⟨ME, hME⟩ : ∃ x, manyEB K l = x := ⟨_, rfl⟩
  rw [hE, hPE, hJE, hMR, hME]
  rw [hE] at C5
  rw [hPK, hPL] at SP
  rw [hJK, hJL] at SJ
  have HE := Lib.hid hE
  have HP := Lib.hid (And.intro hPE (And.intro hPK hPL))
  have HJ := Lib.hid (And.intro hJE (And.intro hJK hJL))
  have HM := Lib.hid (And.intro hMR hME)
  have t1 : (E != E) = false := by simp
  have t2 : (E == E) = true := by simp
  clear hE hPE hPK hPL hJE hJK hJL hMR hME
  obtain ⟨ca0, ca1⟩ := SA.out.cells
  go_wp2_with fail
  clear ca0 ca1
  refine (C5.out _ SA.out.2).mono ?_
  rintro e v7 ⟨rfl, hb7⟩
  go_wp2_with fail
  refine (C6.out _).mono ?_
  rintro e v8 ⟨rfl, hb8⟩
  have hb78 := below_on hb7 hb8
  replace HBW := Lib.hid (below_on HBW.out hb78)
  replace SA := Lib.hid (SA.out.below hb78)
  replace SB := Lib.hid (SB.out.below hb78)
  replace SP := Lib.hid (SP.out.below hb78)
  replace SJ := Lib.hid (SJ.out.below hb78)
  clear hb7 hb8 hb78 C5 C6
  by_cases hne : E ≠ 0
  · obtain rfl : PE = E := by rw [← HP.out.1]; unfold putEB; rw [HE.out, if_neg hne]
    have hJE : JE = PE := by rw [← HJ.out.1]; unfold joinEB; rw [HE.out, if_neg hne]
    have hPK : PK = 0 := by rw [← HP.out.2.1]; unfold putKB; rw [HP.out.1, if_neg hne]
    have hPL : PL = [] := by rw [← HP.out.2.2]; unfold putLB; rw [HP.out.1, if_neg hne]
    have hJK : JK = 0 := by rw [← HJ.out.2.1]; unfold joinKB; rw [HJ.out.1, hJE, if_neg hne]
    have hJL : JL = [] := by rw [← HJ.out.2.2]; unfold joinLB; rw [HJ.out.1, hJE, if_neg hne]
    have hMR : MR = 0 := by rw [← HM.out.1]; unfold manyRB; rw [HE.out, if_neg hne]
    have hME : ME = PE := by rw [← HM.out.2]; unfold manyEB; rw [HE.out, if_neg hne]
    subst hJE hPK hPL hJK hJL hMR hME
    have t3 : (ME != 0) = true := by simpa using hne
    have CS1 := sameB_any 0 0 aP none nP cP 0 0 [] [] v8 SP.out.2 (nil_tab v8) true (by simp)
    have CS2 := Lib.hid (fun W (hT : Tab W aJ nJ cJ 1 (([] : List Int).map iC)) => sameB_any 0 0 aJ none nJ cJ 0 0 [] [] W hT (nil_tab W) true (by simp))
    unfold bottomV at CS1 CS2
    have CS1 := Lib.hid CS1
    obtain ⟨p0, p1⟩ := SP.out.cells
    clear hne HE HP HJ HM
    go_wp2_with fail
    refine CS1.out.mono ?_
    rintro e v9 ⟨rfl, hb9⟩
    replace SJ := Lib.hid (SJ.out.below hb9)
    have HB9 := Lib.hid (below_on HBW.out hb9)
    obtain ⟨j0, j1⟩ := SJ.out.cells
    clear hb9 p0 p1
    go_wp2_with fail
    refine (CS2.out _ SJ.out.2).mono ?_
    rintro e v10 ⟨rfl, hb10⟩
    clear j0 j1
    go_wp2
    go_ret
    exact ⟨rfl, below_on HB9.out hb10⟩
  · obtain rfl : E = 0 := by omega
    obtain ⟨k1, k2, hlk, hok⟩ := bottomE_zero HE.out
    obtain ⟨k, rfl⟩ := Int.eq_ofNat_of_zero_le (show 0 ≤ K by omega)
    have hMR : manyR k l = MR := by rw [← HM.out.1]; unfold manyRB; rw [if_pos HE.out, Int.toNat_natCast]
    have hME : manyE k l = ME := by rw [← HM.out.2]; unfold manyEB; rw [if_pos HE.out, Int.toNat_natCast]
    have CG := guess_ok k a len cap l v8 SA.out.2 HE.out
    rw [hMR, hME] at CG
    unfold bottomV at CG
    have CG := Lib.hid CG
    have t4 : (MR != MR) = false := by simp
    have t5 : (ME != ME) = false := by simp
    have CB := Lib.hid (fun W (hT : Tab W b len2 cap2 1 (m.map iC)) => refBottom_any K2 b len2 cap2 m W hT)
    unfold bottomV at CB
    obtain ⟨ca0, ca1⟩ := SA.out.cells
    clear hne hMR hME
    go_wp2_with fail
    clear ca0 ca1
    refine CG.out.mono ?_
    rintro e v9 ⟨rfl, hb9⟩
    replace HBW := Lib.hid (below_on HBW.out hb9)
    replace SA := Lib.hid (SA.out.below hb9)
    replace SB := Lib.hid (SB.out.below hb9)
    replace SP := Lib.hid (SP.out.below hb9)
    replace SJ := Lib.hid (SJ.out.below hb9)
    clear hb9 CG
    obtain ⟨cb0, cb1⟩ := SB.out.cells
    go_wp2_with fail
    clear cb0 cb1
    refine (CB.out _ SB.out.2).mono ?_
    rintro e v10 ⟨rfl, hb10⟩
    replace HBW := Lib.hid (below_on HBW.out hb10)
    replace SA := Lib.hid (SA.out.below hb10)
    replace SB := Lib.hid (SB.out.below hb10)
    replace SP := Lib.hid (SP.out.below hb10)
    replace SJ := Lib.hid (SJ.out.below hb10)
    obtain ⟨E2, hE2⟩ : ∃ x, bottomE K2 m = x := ⟨_, rfl⟩
    rw [hE2]
    have hJE : JE = if E2 = 0 then (if (k : Int) = K2 then 0 else 7) else E2 := by rw [← HJ.out.1]; unfold joinEB; rw [if_pos HE.out, hE2]
    have HJE := Lib.hid hJE
    have HE2 := Lib.hid hE2
    clear hb10 CB t1 t2 t4 t5 HM hJE hE2
    obtain ⟨ca0, ca1⟩ := SA.out.cells
    obtain ⟨cb0, cb1⟩ := SB.out.cells
    obtain ⟨tt, htt⟩ : ∃ c : Bool, c = (decide (E2 = 0) && decide ((k : Int) ≠ K2)) := ⟨_, rfl⟩
    have HTT := Lib.hid htt
    clear htt
    go_upto_region 13 with fail
    go_cut [99] (fun s wx => s = .bool tt ∧ wx = v10)
    case first =>
      by_cases c1 : E2 = 0
      · subst c1
        by_cases c2 : (k : Int) = K2
        · have t3 : ((k : Int) != K2) = false := by simpa using c2
          obtain rfl : tt = false := by rw [HTT.out]; simp [c2]
          clear c2
          go_wp2_with fail
          go_meet
          case rel => exact ⟨rfl, rfl⟩
        · have t3 : ((k : Int) != K2) = true := by simpa using c2
          obtain rfl : tt = true := by rw [HTT.out]; simp [c2]
          clear c2
          go_wp2_with fail
          go_meet
          case rel => exact ⟨rfl, rfl⟩
      · have t3 : (E2 == 0) = false := by simpa using c1
        obtain rfl : tt = false := by rw [HTT.out]; simp [c1]
        clear c1
        go_wp2_with fail
        go_meet
        case rel => exact ⟨rfl, rfl⟩
    case rest =>
    obtain ⟨rfl, hv⟩ := hcut
    have hv := hv.symm
    subst hv
    go_upto_if 99 with fail
    go_cut [14] (fun s wx => s = .int .i64 JE ∧ wx = v10)
    case first =>
      cases tt with
      | false =>
        obtain rfl : JE = E2 := by
          have h1 := HTT.out
          have h2 := HJE.out
          by_cases c1 : E2 = 0
          · rw [if_pos c1] at h2
            by_cases c2 : (k : Int) = K2
            · rw [if_pos c2] at h2; omega
            · simp [c1, c2] at h1
          · rw [if_neg c1] at h2; exact h2
        go_wp2_with fail
        go_meet
        case rel => exact ⟨rfl, rfl⟩
      | true =>
        obtain rfl : JE = 7 := by
          have h1 := HTT.out
          have h2 := HJE.out
          by_cases c1 : E2 = 0
          · rw [if_pos c1] at h2
            by_cases c2 : (k : Int) = K2
            · simp [c1, c2] at h1
            · rw [if_neg c2] at h2; exact h2
          · simp [c1] at h1
        go_wp2_with fail
        go_meet
        case rel => exact ⟨rfl, rfl⟩
    case rest =>
    obtain ⟨rfl, hv⟩ := hcut
    have hv := hv.symm
    subst hv
    obtain ⟨jj, hjj⟩ : ∃ c : Bool, (JE != 0) = c := ⟨_, rfl⟩
    go_upto_if 101 with fail
    have HJJ := Lib.hid hjj
    clear hjj
    go_cut [] (fun wx => Hid (Below v10.heap.size v10 wx))
    case first =>
      by_cases c1 : JE = 0
      · have h2 := HJE.out
        rw [c1] at h2
        have hE2 : E2 = 0 := by
          by_cases c2 : E2 = 0
          · exact c2
          · rw [if_neg c2] at h2; exact h2.symm
        have hK2 : (k : Int) = K2 := by
          rw [if_pos hE2] at h2
          by_cases c2 : (k : Int) = K2
          · exact c2
          · rw [if_neg c2] at h2; cases h2
        have hJK : JK = (k : Int) := by rw [← HJ.out.2.1]; unfold joinKB; rw [HJ.out.1, if_pos c1]
        have hJL : JL = T k (l ++ m) := by rw [← HJ.out.2.2]; unfold joinLB; rw [HJ.out.1, if_pos c1, Int.toNat_natCast]
        obtain ⟨m1, m2, m3, m4⟩ := bottomE_zero (HE2.out.trans hE2)
        have hlen : len ≤ 40 := by have h := SA.out.2.hlen; rw [List.length_map] at h; omega
        have hlen2 : len2 ≤ 40 := by have h := SB.out.2.hlen; rw [List.length_map] at h; omega
        obtain rfl : jj = false := by rw [← HJJ.out, c1]; rfl
        subst c1 hJK hJL hE2 hK2
        have HX5 : Hid ((v10.alloc (.cells #[.slice a len cap, .slice b len2 cap2] 22)).heap[v10.heap.size]? = some (.cells #[.slice a len cap, .slice b len2 cap2] 22 (0, 0))) := Lib.hid (MapKept.heap_alloc v10 _).1
        have HCC : Hid (∀ (W : World) (X : Nat), Below v10.heap.size v10 W → W.heap[X]? = some (.cells #[.slice a len cap, .slice b len2 cap2] 22 (0, 0)) → Calls Try.prog 16 #[.slice (some ⟨X, 0, none⟩) 2 2] W (RetRows W 3 1 ((l ++ m).map iC))) := Lib.hid (by
          intro W X hb hX
          have hS : Tab W (some ⟨X, 0, none⟩) 2 2 1 (([⟨a, len, cap, l⟩, ⟨b, len2, cap2, m⟩] : List (Sl Int)).map slC) := tab_held hX (by intro r hr; obtain ⟨y, _, rfl⟩ := List.mem_map.1 hr; rfl)
          have h := concat_ints _ 2 2 _ W hS (by
            intro s hs
            rcases List.mem_cons.1 hs with rfl | hs
            · exact SA.out.2.below hb
            · obtain rfl := List.mem_singleton.1 hs
              exact SB.out.2.below hb) (by simp; omega)
          rw [show (([⟨a, len, cap, l⟩, ⟨b, len2, cap2, m⟩] : List (Sl Int)).flatMap (·.l)) = l ++ m by simp] at h
          exact h)
        have HLM : Hid (l.length = len ∧ m.length = len2) := Lib.hid ⟨by have h := SA.out.2.hlen; rw [List.length_map] at h; exact h, by have h := SB.out.2.hlen; rw [List.length_map] at h; exact h⟩
        have HLE : Hid (∀ (W : World) (q : Option Addr) (nn c : Nat), Tab W q nn c 1 ((l ++ m).map iC) → Calls Try.prog 15 #[.int .i64 k, .slice q nn c] W (RetRows W 3 1 ((T k (l ++ m)).map iC))) := Lib.hid (fun W q nn c hT => refLeast_any k q nn c (l ++ m) W hT (fun z hz => by rcases List.mem_append.1 hz with h | h; exact wf_i64 (HO1.out z h); exact wf_i64 (HO2.out z h)) (by omega) (by have h := hT.hlen; rw [List.length_map, List.length_append, HLM.out.1, HLM.out.2] at h; omega))
        have HSE := Lib.hid (fun (W : World) (q : Option Addr) (nn c : Nat) (h1 : Tab W aJ nJ cJ 1 ((T k (l ++ m)).map iC)) (h2 : Tab W q nn c 1 ((T k (l ++ m)).map iC)) => sameB_any k k aJ q nJ cJ nn c (T k (l ++ m)) (T k (l ++ m)) W h1 h2 true (by simp))
        unfold bottomV at HSE
        have hba : Below v10.heap.size v10 (v10.alloc (.cells #[.slice a len cap, .slice b len2 cap2] 22)) := (Below.refl _ _).alloc (Nat.le_refl _) _
        obtain ⟨c0, c1⟩ := SA.out.cells
        obtain ⟨_, c2⟩ := SB.out.cells
        obtain ⟨c3, c4⟩ := SJ.out.cells
        obtain ⟨d0, d1⟩ := (SA.out.below hba).cells
        obtain ⟨_, d2⟩ := (SB.out.below hba).cells
        obtain ⟨d3, d4⟩ := (SJ.out.below hba).cells
        have HPT := Lib.hid SJ.out.2
        obtain ⟨TL, hTL⟩ : ∃ t, T k (l ++ m) = t := ⟨_, rfl⟩
        rw [hTL] at HLE HSE HPT
        obtain ⟨QQ, hQQ⟩ : ∃ q, (l ++ m).map iC = q := ⟨_, rfl⟩
        rw [hQQ] at HLE HCC
        clear hTL hQQ hba m1 m2 m3 m4 h2 HJJ HJE HTT
        go_wp2_with fail
        go_region_held_law (fun W => W.cell? ⟨XA, 0, none⟩ = some (.int .i64 k) ∧ W.cell? ⟨XA, 1, none⟩ = some (.slice a len cap) ∧ W.cell? ⟨XA + 1, 1, none⟩ = some (.slice b len2 cap2) ∧ W.cell? ⟨XJ, 0, none⟩ = some (.int .i64 k) ∧ W.cell? ⟨XJ, 1, none⟩ = some (.slice aJ nJ cJ)) (first | exact ⟨c0, c1, c2, c3, c4⟩ | exact ⟨d0, d1, d2, d3, d4⟩ | exact ⟨e0, e1, e2, e3, e4⟩ | exact ⟨f0, f1, f2, f3, f4⟩ | exact ⟨g0, g1, g2, g3, g4⟩ | go_keep) (first
          | (go_at_call 16; refine Calls.mono (HCC.out _ _ ?_ ?_) ?_; (first | exact ((Below.refl _ _).alloc (Nat.le_refl _) _).drew | exact (Below.refl _ _).alloc (Nat.le_refl _) _); exact HX5.out; rintro e w5 ⟨q5, rfl, hO5, hb5⟩; obtain ⟨a5, c5, rfl, hT5⟩ := hO5.tab; obtain ⟨n5, hn5⟩ : ∃ u, QQ.length = u := ⟨_, rfl⟩; rw [hn5] at hT5 ⊢; clear hn5; have hbw5 : Below v10.heap.size v10 w5 := (by first | exact below_on (((Below.refl v10.heap.size v10).alloc (Nat.le_refl _) _).drew) hb5 | exact below_on ((Below.refl v10.heap.size v10).alloc (Nat.le_refl _) _) hb5); obtain ⟨e0, e1⟩ := (SA.out.below hbw5).cells; obtain ⟨_, e2⟩ := (SB.out.below hbw5).cells; obtain ⟨e3, e4⟩ := (SJ.out.below hbw5).cells)
          | (go_at_call 15; refine (HLE.out _ _ _ _ hT5).mono ?_; rintro e w8 ⟨q8, rfl, hO8, hb8⟩; obtain ⟨a8, c8, rfl, hT8⟩ := hO8.tab; obtain ⟨n8, hn8⟩ : ∃ u, (TL.map iC).length = u := ⟨_, rfl⟩; rw [hn8] at hT8 ⊢; clear hn8; have hbw8 : Below v10.heap.size v10 w8 := below_on hbw5 hb8; obtain ⟨f0, f1⟩ := (SA.out.below hbw8).cells; obtain ⟨_, f2⟩ := (SB.out.below hbw8).cells; obtain ⟨f3, f4⟩ := (SJ.out.below hbw8).cells)
          | (go_at_call 13; refine (HSE.out _ _ _ _ (HPT.out.below hbw8) hT8).mono ?_; rintro e w9 ⟨rfl, hb9⟩; have hbw9 := below_on hbw8 hb9; obtain ⟨g0, g1⟩ := (SA.out.below hbw9).cells; obtain ⟨_, g2⟩ := (SB.out.below hbw9).cells; obtain ⟨g3, g4⟩ := (SJ.out.below hbw9).cells))
        all_goals
          go_wp2_with fail
          go_meet
          case rel => exact Lib.hid hbw9
      · have hJK : JK = 0 := by rw [← HJ.out.2.1]; unfold joinKB; rw [HJ.out.1, if_neg c1]
        have hJL : JL = [] := by rw [← HJ.out.2.2]; unfold joinLB; rw [HJ.out.1, if_neg c1]
        obtain rfl : jj = true := by rw [← HJJ.out]; simpa using c1
        subst hJK hJL
        have t6 : (JE != JE) = false := by simp
        have CS2 := sameB_any 0 0 aJ none nJ cJ 0 0 [] [] v10 SJ.out.2 (nil_tab v10) true (by simp)
        unfold bottomV at CS2
        have CS2 := Lib.hid CS2
        obtain ⟨j0, j1⟩ := SJ.out.cells
        clear c1
        go_wp2_with fail
        refine CS2.out.mono ?_
        rintro e v11 ⟨rfl, hb11⟩
        go_wp2_with fail
        go_meet
        case rel => exact Lib.hid hb11
    case rest =>
    have HB11 : Hid (Below v10.heap.size v10 wc) := hcut
    obtain ⟨v12, hv12⟩ : ∃ v, v = wc := ⟨_, rfl⟩
    subst hv12
    replace HBW := Lib.hid (below_on HBW.out HB11.out)
    replace SA := Lib.hid (SA.out.below HB11.out)
    replace SB := Lib.hid (SB.out.below HB11.out)
    replace SP := Lib.hid (SP.out.below HB11.out)
    replace SJ := Lib.hid (SJ.out.below HB11.out)
    clear HB11 hcut HJJ ca0 ca1 cb0 cb1 HTT HJE HJ
    by_cases hin : 0 ≤ n ∧ n < 72057594037927936
    · have CD := Lib.hid (fun W => refDraw_any n W true (by symm; rw [Bool.and_eq_true, decide_eq_true_iff, decide_eq_true_iff]; exact hin))
      obtain rfl : PE = 0 := by rw [← HP.out.1]; unfold putEB; rw [if_pos HE.out, if_pos hin]
      have hPK : PK = (k : Int) := by rw [← HP.out.2.1]; unfold putKB; rw [HP.out.1, if_pos rfl]
      have hPL : PL = T k (l ++ [n]) := by rw [← HP.out.2.2]; unfold putLB; rw [HP.out.1, if_pos rfl, Int.toNat_natCast]
      subst hPK hPL
      have hlen : len ≤ 40 := by have h := SA.out.2.hlen; rw [List.length_map] at h; omega
      have HCL : Hid (∀ W, Below v12.heap.size v12 W → Calls Try.prog 18 #[.slice a len cap] W (RetRows W 3 1 (l.map iC))) := Lib.hid (fun W hb => clone_ints a len cap l W (SA.out.2.below hb) (by omega))
      have HLE : Hid (∀ (W : World) (q : Option Addr) (c : Nat), Tab W q (len + 1) c 1 ((l ++ [n]).map iC) → Calls Try.prog 15 #[.int .i64 k, .slice q (len + 1) c] W (RetRows W 3 1 ((T k (l ++ [n])).map iC))) := Lib.hid (fun W q c hT => refLeast_any k q (len + 1) c (l ++ [n]) W hT (fun z hz => by rcases List.mem_append.1 hz with h | h; exact wf_i64 (HO1.out z h); rw [List.mem_singleton.1 h]; exact HN.out) (by omega) (by omega))
      have HSE := Lib.hid (fun (W : World) (q : Option Addr) (nn c : Nat) (h1 : Tab W aP nP cP 1 ((T k (l ++ [n])).map iC)) (h2 : Tab W q nn c 1 ((T k (l ++ [n])).map iC)) => sameB_any k k aP q nP cP nn c (T k (l ++ [n])) (T k (l ++ [n])) W h1 h2 true (by simp))
      unfold bottomV at HSE
      have HLL : Hid (l.length = len) := Lib.hid (by have h := SA.out.2.hlen; rw [List.length_map] at h; exact h)
      have hba : Below v12.heap.size v12 (v12.alloc (.cells #[.int .i64 n] 3)) := (Below.refl _ _).alloc (Nat.le_refl _) _
      obtain ⟨c0, c1⟩ := SA.out.cells
      obtain ⟨c2, c3⟩ := SP.out.cells
      obtain ⟨d0, d1⟩ := (SA.out.below hba).cells
      obtain ⟨d2, d3⟩ := (SP.out.below hba).cells
      have HPT := Lib.hid SP.out.2
      obtain ⟨TL, hTL⟩ : ∃ t, T k (l ++ [n]) = t := ⟨_, rfl⟩
      rw [hTL] at HLE HSE HPT
      clear HP hin hlk k1 hTL hba
      go_wp2_with fail
      refine (CD.out _).mono ?_
      rintro e v13 ⟨rfl, hv13⟩
      rw [← hv13]
      clear hv13 CD
      go_wp2_with fail
      go_region_held_law (fun W => W.cell? ⟨XA, 0, none⟩ = some (.int .i64 k) ∧ W.cell? ⟨XA, 1, none⟩ = some (.slice a len cap) ∧ W.cell? ⟨XP, 0, none⟩ = some (.int .i64 k) ∧ W.cell? ⟨XP, 1, none⟩ = some (.slice aP nP cP)) (first | exact ⟨c0, c1, c2, c3⟩ | exact ⟨d0, d1, d2, d3⟩ | exact ⟨e0, e1, e2, e3⟩ | exact ⟨f0, f1, f2, f3⟩ | exact ⟨g0, g1, g2, g3⟩ | exact ⟨i0, i1, i2, i3⟩ | exact ⟨j0, j1, j2, j3⟩ | go_keep) (first
        | (refine step_append_rows_if _ (by first | rfl | simp [Region.wanted, yielded, Act.put]) _ _ 22 rfl v12.heap.size 3 _ 1 8 Try.underlying22 info_int rfl (by decide) _ (l.map iC) (by simp [Act.eval, Act.put]) hO5 ⟨v12.heap.size, 0, none⟩ 1 1 [[.int .i64 n]] (by decide) rfl (by simp [Act.eval, Act.put]) (by simp) hn7 (by simp [Value.oneCell']) (by rw [List.length_map, HLL.out]; omega) (by decide) (by omega) ?_; intro g6 c6 w6 hO6 hg6; have hb6 : Below v12.heap.size v12 w6 := hO5.under hbw5 (Nat.le_refl _) hs5 hg6; obtain ⟨g0, g1⟩ := (SA.out.below hb6).cells; obtain ⟨g2, g3⟩ := (SP.out.below hb6).cells; simp only [List.length_map] at hO6 ⊢; rw [HLL.out] at hO6 ⊢)
        | (refine step_append_rows_if _ (by first | rfl | simp [Region.wanted, yielded, Act.put]) _ _ 22 rfl v12.heap.size 3 _ 1 8 Try.underlying22 info_int rfl (by decide) _ (l.map iC) (by simp [Act.eval, Act.put]) (hO5.alloc _) ⟨w5.heap.size, 0, none⟩ 1 1 [[.int .i64 n]] (by decide) rfl (by simp [Act.eval, Act.put]) (by simp) (one_row _ _ _ _ (by simp)) (by simp [Value.oneCell']) (by rw [List.length_map, HLL.out]; omega) (by decide) (by simp; omega) ?_; intro g6 c6 w6 hO6 hg6; have hb6 : Below v12.heap.size v12 w6 := (hO5.alloc (.cells #[.int .i64 n] 3)).under (hbw5.alloc hs5 _) (Nat.le_refl _) (by simp; omega) hg6; obtain ⟨g0, g1⟩ := (SA.out.below hb6).cells; obtain ⟨g2, g3⟩ := (SP.out.below hb6).cells; simp only [List.length_map] at hO6 ⊢; rw [HLL.out] at hO6 ⊢)
        | (go_at_call 18; refine Calls.mono (HCL.out _ ?_) ?_; (first | exact (Below.refl _ _).drew | exact ((Below.refl _ _).alloc (Nat.le_refl _) _).drew); rintro e w5 ⟨q5, rfl, hO5', hb5⟩; obtain ⟨a5, c5, rfl, _⟩ := hO5'.tab; have hbw5 : Below v12.heap.size v12 w5 := (by first | exact below_on (Below.refl v12.heap.size v12).drew hb5 | exact below_on (((Below.refl v12.heap.size v12).alloc (Nat.le_refl _) _).drew) hb5); have hO5 := hO5'.base_le (B := v12.heap.size) (by first | exact Nat.le_refl _ | (simp)); have hs5 := hbw5.size; (first | have hn7 : ∀ j u, [[Value.int .i64 n]].flatten[j]? = some u → w5.cell? ((⟨v12.heap.size, 0, none⟩ : Addr).add j) = some u := (fun jj u hj => (hb5.cell (by show ((⟨v12.heap.size, 0, none⟩ : Addr).add jj).block < (v12.alloc (.cells #[.int .i64 n] 3)).heap.size; rw [addr_add]; simp)).trans (one_row v12 [.int .i64 n] 3 v12.heap.size rfl jj u hj)) | skip); obtain ⟨e0, e1⟩ := (SA.out.below hbw5).cells; obtain ⟨e2, e3⟩ := (SP.out.below hbw5).cells; obtain ⟨f0, f1⟩ := ((SA.out.below hbw5).below ((Below.refl _ _).alloc (Nat.le_refl _) (.cells #[.int .i64 n] 3))).cells; obtain ⟨f2, f3⟩ := ((SP.out.below hbw5).below ((Below.refl _ _).alloc (Nat.le_refl _) (.cells #[.int .i64 n] 3))).cells; simp only [List.length_map] at hO5 ⊢; rw [HLL.out] at hO5 ⊢)
        | (go_at_call 15; refine (HLE.out _ _ _ (by have h := hO6.tab_of; rw [show l.map iC ++ [[Value.int .i64 n]] = (l ++ [n]).map iC from by rw [List.map_append]; rfl] at h; exact h)).mono ?_; rintro e w8 ⟨q8, rfl, hO8, hb8⟩; obtain ⟨a8, c8, rfl, hT8⟩ := hO8.tab; obtain ⟨n8, hn8⟩ : ∃ u, (TL.map iC).length = u := ⟨_, rfl⟩; rw [hn8] at hT8 ⊢; clear hn8; have hbw8 : Below v12.heap.size v12 w8 := below_on hb6 hb8; obtain ⟨i0, i1⟩ := (SA.out.below hbw8).cells; obtain ⟨i2, i3⟩ := (SP.out.below hbw8).cells)
        | (go_at_call 13; refine (HSE.out _ _ _ _ (HPT.out.below hbw8) hT8).mono ?_; rintro e w9 ⟨rfl, hb9⟩; have hbw9 := below_on hbw8 hb9; obtain ⟨j0, j1⟩ := (SA.out.below hbw9).cells; obtain ⟨j2, j3⟩ := (SP.out.below hbw9).cells))
      all_goals
        go_wp2
        go_ret
        exact ⟨rfl, below_on HBW.out hbw9⟩
    · have CD := Lib.hid (fun W => refDraw_any n W false (by symm; rw [← Bool.not_eq_true, Bool.and_eq_true, decide_eq_true_iff, decide_eq_true_iff]; exact hin))
      obtain rfl : PE = 1 := by rw [← HP.out.1]; unfold putEB; rw [if_pos HE.out, if_neg hin]
      have hPK : PK = 0 := by rw [← HP.out.2.1]; unfold putKB; rw [HP.out.1]; rfl
      have hPL : PL = [] := by rw [← HP.out.2.2]; unfold putLB; rw [HP.out.1]; rfl
      subst hPK hPL
      have CS2 := sameB_any 0 0 aP none nP cP 0 0 [] [] v12 SP.out.2 (nil_tab v12) true (by simp)
      unfold bottomV at CS2
      have CS2 := Lib.hid CS2
      obtain ⟨j0, j1⟩ := SP.out.cells
      clear hin HP
      go_wp2_with fail
      refine (CD.out _).mono ?_
      rintro e v13 ⟨rfl, hv13⟩
      rw [← hv13]
      clear hv13 CD
      go_wp2_with fail
      refine CS2.out.mono ?_
      rintro e v14 ⟨rfl, hb14⟩
      go_wp2
      go_ret
      exact ⟨rfl, below_on HBW.out hb14⟩

set_option maxRecDepth 100000 in
theorem lifted (os : Os) (started : os.Started) (H : Type) (enc : TypeId × Value → H) :
    ReturnsInHanded {} Try.checked os 3 .any (Rows.bottomSaysSpec.pre6 enc Try.prog Try.f3 Rows.bottomSaysRow.domain false) (Rows.bottomSaysSpec.post enc Try.prog Try.f3 false true false false) := by
  refine returnsInHanded_of_change_sized (C := Try.checked) own started (by kernel_rfl) Try.func3
    (ChangeSpec.witness6 (enc := enc) (C := Try.checked) false ⟨#[], #[.agg #[.int .i64 0, .slice none 0 0], .agg #[.int .i64 0, .slice none 0 0], .int .i64 0], []⟩ 8 (by kernel_rfl) (by kernel_rfl) (by kernel_rfl) (by kernel_rfl)) ?_
  intro W base args ds gs before hval0 hW hcnd hsz0 _
  have hval : ∀ (j : Nat) t v, Try.f3.params[j]? = some t → args[j]? = some v → Value.okWide Try.prog W .any base t v := hval0
  have hW' := hW
  obtain ⟨p, q, hA0, hV, rfl, hfz, hnd⟩ := hW
  have hA : DataW.TrodAll enc Try.prog W 0 (fun _ => true) true Try.f3.params.toList args.toList ds p := hA0
  have hsz : (DataW.weightsEach Try.prog (Try.f3.params.toList ++ Rows.bottomSaysSpec.plain.varTypes Try.prog) (ds ++ gs)).all (· ≤ reachBytes) = true := hsz0
  rw [Try.params3] at hA hval hsz
  obtain ⟨v0, vs0, d0, ds0, p0, q0, hargs, rfl, rfl, h0, r0⟩ := trodAll_cons hA
  obtain ⟨v1, vs1, d1, ds1, p1, q1, rfl, rfl, rfl, h1, r1⟩ := trodAll_cons r0
  obtain ⟨v2, vs2, d2, ds2, p2, q2, rfl, rfl, rfl, h2, r2⟩ := trodAll_cons r1
  obtain ⟨rfl, rfl, rfl⟩ := trodAll_nil r2
  obtain rfl : args = #[v0, v1, v2] := by cases args; simp_all
  obtain ⟨rfl, rfl⟩ := trodVars_none hV
  have k0 := h0
  have L0 := light_of hsz (j := 0) (t := 24) (d := d0) rfl rfl
  have lt0 : ∀ x ∈ p0, x.block < W.heap.size := by obtain ⟨m, hm⟩ := k0; exact DataW.trod_lt m _ _ _ hm
  obtain ⟨cs0, rfl, hsz0⟩ := okWide_struct Try.underlying24 (hval 0 24 v0 rfl rfl)
  obtain ⟨n0, f0⟩ := trod_agg_of h0
  obtain ⟨c0_0, c0_1, _, _, _, _, hcs0, g0_0, g0_1⟩ := struct2 Try.underlying24 (by kernel_rfl) (by kernel_rfl) f0 L0
  obtain ⟨x0_0, e0_0, _, w0_0⟩ := DataW.trod_int Try.underlying3 g0_0.1
  obtain ⟨x0_1, e0_1, t0_1, b0_1, o0_1⟩ := el_slice (w := W) (k := 1) iC wfI (by decide) Try.underlying22 (by kernel_rfl) (el_int Try.underlying3) (B := 8) (by kernel_rfl) _ _ _ g0_1.1 g0_1.2
  simp only [slC, List.cons.injEq, and_true] at e0_0 e0_1
  subst e0_0 e0_1
  obtain rfl : cs0 = #[.int .i64 x0_0, .slice x0_1.a x0_1.len x0_1.cap] := Array.toList_inj.1 hcs0
  have k1 := h1
  have L1 := light_of hsz (j := 1) (t := 24) (d := d1) rfl rfl
  have lt1 : ∀ x ∈ p1, x.block < W.heap.size := by obtain ⟨m, hm⟩ := k1; exact DataW.trod_lt m _ _ _ hm
  obtain ⟨cs1, rfl, hsz1⟩ := okWide_struct Try.underlying24 (hval 1 24 v1 rfl rfl)
  obtain ⟨n1, f1⟩ := trod_agg_of h1
  obtain ⟨c1_0, c1_1, _, _, _, _, hcs1, g1_0, g1_1⟩ := struct2 Try.underlying24 (by kernel_rfl) (by kernel_rfl) f1 L1
  obtain ⟨x1_0, e1_0, _, w1_0⟩ := DataW.trod_int Try.underlying3 g1_0.1
  obtain ⟨x1_1, e1_1, t1_1, b1_1, o1_1⟩ := el_slice (w := W) (k := 1) iC wfI (by decide) Try.underlying22 (by kernel_rfl) (el_int Try.underlying3) (B := 8) (by kernel_rfl) _ _ _ g1_1.1 g1_1.2
  simp only [slC, List.cons.injEq, and_true] at e1_0 e1_1
  subst e1_0 e1_1
  obtain rfl : cs1 = #[.int .i64 x1_0, .slice x1_1.a x1_1.len x1_1.cap] := Array.toList_inj.1 hcs1
  have k2 := h2
  have L2 := light_of hsz (j := 2) (t := 3) (d := d2) rfl rfl
  have lt2 : ∀ x ∈ p2, x.block < W.heap.size := by obtain ⟨m, hm⟩ := k2; exact DataW.trod_lt m _ _ _ hm
  obtain ⟨x2, rfl, rfl, rfl, w2⟩ := open_int Try.underlying3 (hval 2 3 v2 rfl rfl) h2
  clear hA0 hval0
  refine (walk x0_0 x0_1 x1_0 x1_1 x2 W w0_0 t0_1 b0_1 o0_1 w1_0 t1_1 b1_1 o1_1 w2).mono fun e W' ⟨he, hg⟩ => ?_
  subst he
  exact ⟨_, rfl, _, _, _, [], _, [], hW', trodAll_mk1 (shut_bool Try.underlying4 _), (trodAll_cons_mk (Below.trod laidOut (by kernel_rfl) (of_decide_eq_true (by kernel_rfl)) k0 hg lt0) (trodAll_cons_mk (Below.trod laidOut (by kernel_rfl) (of_decide_eq_true (by kernel_rfl)) k1 hg lt1) (trodAll_cons_mk (Below.trod laidOut (by kernel_rfl) (of_decide_eq_true (by kernel_rfl)) k2 hg lt2) trodAll_mk0))), rfl, hg.frame _, fun h => by cases h⟩

theorem over : Rows.bottomSaysRow.holds Try.pinned (OpenSpec.ofChange Rows.bottomSaysSpec) :=
  OpenClaim.holds_of_wide 3 Try.f3 rfl rfl rfl rfl rfl rfl rfl ⟨rfl, rfl, rfl, rfl, rfl⟩ rfl rfl rfl rfl rfl (by kernel_rfl) Try.func3 (by kernel_rfl)
    (of_decide_eq_true (by kernel_rfl)) (by unfold Func.isWrapper; first | (rw [if_pos (by decide +kernel)]; kernel_rfl) | (rw [if_neg (by decide +kernel)]; exact ⟨rfl, rfl⟩))
    (fun os started H enc _ => lifted os started H enc)

/-- ████ THE STATEMENT ████ -/
theorem proved : Rows.BottomSaysSaid :=
  over
#print axioms proved
end Go.Proofs.Ytfocmnjkoominaa.bottomSays
