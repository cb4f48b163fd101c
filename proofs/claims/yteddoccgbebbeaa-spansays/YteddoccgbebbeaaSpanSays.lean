/-
  'Rows.SpanSaysSaid' is proved: the functions of package span answer as the document says, at every trace, every random value and every choice of kept spans. No condition.
-/
import Derived.Test.YteddoccgbebbeaaRows
import Derived.Test.YteddoccgbebbeaaShapes
import Derived.Test.YteddoccgbebbeaaSpanKept
import Derived.Test.YteddoccgbebbeaaSpanMend
import Derived.Test.YteddoccgbebbeaaSpanLow
import Derived.Test.YteddoccgbebbeaaRefSpan
import Derived.Test.YteddoccgbebbeaaKeepSpans
import Derived.Test.YteddoccgbebbeaaEqualBools
import Derived.Test.YteddoccgbebbeaaEqualSpans
import Derived.Test.YteddoccgbebbeaaLit
import Derived.Deep.DeepCutAuto
import Derived.Deep.LoopGhost
import Derived.BigQuiet
import Derived.WalkKit
import Derived.ProofKit
import Derived.OpenShut
import Derived.ShutString
import Derived.ChangeOld
import Derived.Below
namespace Go.Proofs.Yteddoccgbebbeaa.spanSays
open Go.ChangeShapes Go.WideShapes Go.ChangeAt Go.RowKit
open Go.ChangeMaps (open_string shut_string)
set_option linter.unusedVariables false

theorem own : ownKnob Try.prog.godebug = none := by kernel_rfl
theorem laidOut : laidOutB Try.prog = true := by kernel_rfl

open Span
theorem lit_bad : spansE [((-2 : Int), (0 : Int))] = 1 := by decide
theorem keptE_bad {l : List (Int × Int)} {n : Nat} (h : spansE l ≠ 0) : keptE l n = spansE l := if_neg h
theorem keptE_len {l : List (Int × Int)} {n : Nat} (h : spansE l = 0) (hn : n ≠ l.length) : keptE l n = 7 := by unfold keptE; rw [if_pos h, if_neg hn]
theorem keptE_ok {l : List (Int × Int)} {n : Nat} (h : spansE l = 0) (hn : n = l.length) : keptE l n = 0 := by unfold keptE; rw [if_pos h, if_pos hn]
theorem is_it (p : Prop) : ∃ b : Bool, b = true ↔ p := by
  by_cases h : p
  · exact ⟨true, by simp [h]⟩
  · exact ⟨false, by simp [h]⟩
theorem which (l : List (Int × Int)) (k : Nat) : ∃ c : Nat → Bool, ∀ j, c j = true ↔ Under l j k := by
  classical
  exact ⟨fun j => decide (Under l j k), fun j => by simp⟩
theorem under_same (a : Option Addr) (len cap : Nat) (l : List (Int × Int)) (i k : Nat) (w : World) (h : Tab w a len cap 2 (l.map iiC)) (hz : ∀ (i : Nat) (s : Int × Int), l[i]? = some s → -1 ≤ s.1 ∧ s.1 < (i : Int)) (h40 : len ≤ 40) (hi : i < len) (c : Bool) (hc : c = true ↔ Under l i k) :
    Calls Try.prog 28 #[.slice a len cap, .int .i64 i, .int .i64 k] w fun e w' => e = .returned (.bool c) ∧ w' = w := (under_any a len cap l i k w h hz h40 hi c hc).mono (fun _ _ h => ⟨h.1, h.2.symm⟩)
/-- the parents of the first j kept ones are kept -/
def WholeTo (l : List (Int × Int)) (K : List Bool) (j : Nat) : Prop := ∀ (i : Nat) (s : Int × Int), i < j → l[i]? = some s → K[i]? = some true → s.1 = -1 ∨ K[s.1.toNat]? = some true
theorem wholeTo_no {l : List (Int × Int)} {K : List Bool} {j : Nat} (hK : K[j]? = some false) : WholeTo l K (j + 1) ↔ WholeTo l K j := by
  constructor
  · intro h i s hi; exact h i s (by omega)
  · intro h i s hi hs ht
    by_cases e : i = j
    · subst e; rw [hK] at ht; cases ht
    · exact h i s (by omega) hs ht
theorem wholeTo_yes {l : List (Int × Int)} {K : List Bool} {j : Nat} {u v : Int} (hx : l[j]? = some (u, v)) (hK : K[j]? = some true) : WholeTo l K (j + 1) ↔ WholeTo l K j ∧ (u = -1 ∨ K[u.toNat]? = some true) := by
  constructor
  · intro h
    exact ⟨fun i s hi => h i s (by omega), h j (u, v) (by omega) hx hK⟩
  · rintro ⟨h1, h2⟩ i s hi hs ht
    by_cases e : i = j
    · subst e; rw [hx, Option.some.injEq] at hs; subst hs; exact h2
    · exact h1 i s (by omega) hs ht
theorem wholeTo_all {l : List (Int × Int)} {K : List Bool} {n : Nat} (hn : l.length = n) : WholeTo l K n ↔ WholeP l K :=
  ⟨fun h i s hs ht => h i s (by have := (List.getElem?_eq_some_iff.1 hs).1; omega) hs ht, fun h i s _ hs ht => h i s hs ht⟩
/-- the two slices that the law makes -/
structure Grow2 (w0 wr : World) (vm va : Value) (RM RA : List (List Value)) : Prop where
  om : Own wr w0.heap.size 44 2 vm RM
  oa : Own wr w0.heap.size 4 1 va RA
  ap : Apart vm va
  bel : Below w0.heap.size w0 wr
variable {w0 wr w1 : World} {vm va v' : Value} {RM RA R' : List (List Value)} {B : Nat} {p q : Int} {o : Obj}
theorem Grow2.alloc (h : Grow2 w0 wr vm va RM RA) (o : Obj) : Grow2 w0 (wr.alloc o) vm va RM RA := ⟨h.om.alloc o, h.oa.alloc o, h.ap, h.bel.alloc h.bel.size o⟩
theorem Grow2.below (h : Grow2 w0 wr vm va RM RA) (hb : Below wr.heap.size wr w1) : Grow2 w0 w1 vm va RM RA := ⟨h.om.below hb, h.oa.below hb, h.ap, below_on h.bel hb⟩
theorem Grow2.pushA (h : Grow2 w0 wr vm va RM RA) (hO : Own w1 w0.heap.size 4 1 v' R') (hg : wr.grownBy w1 va.ownBlock) (hv : v'.ownBlock = va.ownBlock ∨ v'.ownBlock = some wr.heap.size) : Grow2 w0 w1 vm v' RM R' :=
  ⟨h.om.keptBy hg h.ap.or, hO, (Apart.append h.ap.symm h.om (Nat.le_refl _) hv).symm, h.oa.under h.bel (Nat.le_refl _) h.bel.size hg⟩
theorem Grow2.pushM (h : Grow2 w0 wr vm va RM RA) (hO : Own w1 w0.heap.size 44 2 v' R') (hg : wr.grownBy w1 vm.ownBlock) (hv : v'.ownBlock = vm.ownBlock ∨ v'.ownBlock = some wr.heap.size) : Grow2 w0 w1 v' va R' RA :=
  ⟨hO, h.oa.keptBy hg h.ap.symm.or, Apart.append h.ap h.oa (Nat.le_refl _) hv, h.om.under h.bel (Nat.le_refl _) h.bel.size hg⟩
/-- with the span that is being made, in its own block -/
structure Held2 (w0 wr : World) (vm va : Value) (RM RA : List (List Value)) (B : Nat) (p q : Int) : Prop where
  two : Grow2 w0 wr vm va RM RA
  box : wr.heap[B]? = some (.cells #[.int .i64 p, .int .i64 q] 44 (0, 0))
  nm : vm.ownBlock ≠ some B
  na : va.ownBlock ≠ some B
  lo : w0.heap.size ≤ B
theorem Held2.new (h : Grow2 w0 wr vm va RM RA) (p q : Int) : Held2 w0 (wr.alloc (.cells #[.int .i64 p, .int .i64 q] 44)) vm va RM RA wr.heap.size p q :=
  ⟨h.alloc _, (MapKept.heap_alloc wr _).1, fun e => by have := (h.om.own.lt _ e).2; omega, fun e => by have := (h.oa.own.lt _ e).2; omega, h.bel.size⟩
theorem Held2.below (h : Held2 w0 wr vm va RM RA B p q) (hb : Below wr.heap.size wr w1) : Held2 w0 w1 vm va RM RA B p q :=
  ⟨h.two.below hb, (hb.block B (Array.getElem?_eq_some_iff.1 h.box).1).trans h.box, h.nm, h.na, h.lo⟩
theorem Held2.pushA (h : Held2 w0 wr vm va RM RA B p q) (o : Obj) (hO : Own w1 w0.heap.size 4 1 v' R') (hg : (wr.alloc o).grownBy w1 va.ownBlock) (hv : v'.ownBlock = va.ownBlock ∨ v'.ownBlock = some (wr.alloc o).heap.size) : Held2 w0 w1 vm v' RM R' B p q := by
  have hB : B < wr.heap.size := (Array.getElem?_eq_some_iff.1 h.box).1
  refine ⟨(h.two.alloc o).pushA hO hg hv, ?_, h.nm, ?_, h.lo⟩
  · rw [hg.block B (by simp; omega) (fun e => h.na e.symm), Below.heap_alloc _ _ _ hB]; exact h.box
  · rcases hv with e | e
    · rw [e]; exact h.na
    · rw [e]; simp; omega
theorem Held2.set (h : Held2 w0 wr vm va RM RA B p q) (x : Int) : Held2 w0 (wr.setCell ⟨B, 1, none⟩ (.int .i64 x)) vm va RM RA B p x :=
  ⟨⟨h.two.om.keptBy (grown_cell _ _ _) (Or.inr h.nm), h.two.oa.keptBy (grown_cell _ _ _) (Or.inr h.na), h.two.ap, h.two.bel.setCell (p := ⟨B, 1, none⟩) h.lo _⟩, heap_setCell_same wr B 1 _ _ _ h.box, h.nm, h.na, h.lo⟩
theorem map_take1 {α β : Type} {f : α → β} {l : List α} {k : Nat} {x : α} (h : l[k]? = some x) : (l.take (k + 1)).map f = (l.take k).map f ++ [f x] := by
  rw [List.take_add_one, h, List.map_append]; rfl
/-- 2^56 by what is kept of it at a level is 2 to the level -/
theorem quo_level {n : Nat} (hn : n ≤ 20) : (72057594037927936 : Int) / (72057594037927936 - thr (n : Int)) = ((2 ^ n : Nat) : Int) := by
  have e : (72057594037927936 : Int) - thr (n : Int) = ((keptAt n : Nat) : Int) := by
    have h := keptAt_le n
    unfold thr
    rw [Int.toNat_natCast]
    generalize keptAt n = x at *
    rw [two56_val]
    omega
  rw [e, show (72057594037927936 : Int) = ((2 ^ 56 : Nat) : Int) from rfl, ← Int.natCast_ediv]
  unfold keptAt
  rw [Nat.pow_div (by omega) (by decide), show 56 - (56 - n) = n by omega]

set_option maxRecDepth 100000 in
set_option maxHeartbeats 2000000 in
theorem walk (x0 : Sl (Int × Int)) (x1 : Int) (x2 : Sl Bool) (w : World) (t0 : Tab w x0.a x0.len x0.cap 2 (x0.l.map iiC)) (b0 : x0.len * 16 ≤ 140737488351232) (o0 : ∀ z ∈ x0.l, wfII z) (w1 : (Lit.int .i64 x1).wf = true) (t2 : Tab w x2.a x2.len x2.cap 1 (x2.l.map bC)) (b2 : x2.len * 1 ≤ 140737488351232) (o2 : ∀ z ∈ x2.l, (fun _ => True) z) :
    Calls Try.prog 4 #[.slice x0.a x0.len x0.cap, .int .i64 x1, .slice x2.a x2.len x2.cap] w fun e w' => e = .returned (.bool true) ∧ Below w.heap.size w w' := by
  obtain ⟨a, len, cap, L⟩ := x0
  obtain ⟨ka, kl, kc, K⟩ := x2
  have hm := t0.hmax
  have hle := t0.hle
  unfold maxLen at hm
  have hmk := t2.hmax
  have hlk := t2.hle
  unfold maxLen at hmk
  have HT := Lib.hid t0
  have HTK := Lib.hid t2
  have hL := t0.hlen
  rw [List.length_map] at hL
  have hL' : L.length = len := hL
  have HL := Lib.hid hL'
  have hK := t2.hlen
  rw [List.length_map] at hK
  have hK' : K.length = kl := hK
  have HLK := Lib.hid hK'
  have C5 := Lib.hid (fun W (hb : Below w.heap.size w W) => refSpans_any a len cap L W (HT.out.below hb))
  have C6 := Lib.hid (fun W (hb : Below w.heap.size w W) => spanCheck_any a len cap L W (HT.out.below hb))
  have C7 := Lib.hid (fun W => spanCheck_any (some ⟨W.heap.size, 0, none⟩) 1 1 [((-2 : Int), (0 : Int))] _ (tab_lit W 44 2 1 ([((-2 : Int), (0 : Int))].map iiC) #[.int .i64 (-2), .int .i64 0] rfl rfl (rows_of iiC_len _) (by decide) _ rfl))
  rw [lit_bad] at C7
  clear t0 o0 t2 o2 hL hL' hK hK'
  by_cases hE : spansE L = 0
  case neg =>
    have C1 := Lib.hid (kept_bad a len cap L x1 w HT.out hE)
    have C2 := Lib.hid (fun W (hb : Below w.heap.size w W) => whole_bad a ka len cap kl kc L W (HT.out.below hb) (by rw [keptE_bad hE]; exact hE))
    have C3 := Lib.hid (fun W (hb : Below w.heap.size w W) => mend_bad a len cap L W (HT.out.below hb) hE)
    have C4 := Lib.hid (fun W (hb : Below w.heap.size w W) => count_bad a ka len cap kl kc L W (HT.out.below hb) (by rw [keptE_bad hE]; exact hE))
    rw [keptE_bad hE] at C2 C4
    have t : (spansE L != 0) = true := by simpa using hE
    have t1 : (spansE L == spansE L) = true := by simp
    have t2 : (spansE L != spansE L) = false := by simp
    clear hE
    generalize spansE L = E at *
    go_enter Try.func4, Try.ntmps4
    go_wp2_with fail
    refine C1.out.mono ?_
    rintro e v1 ⟨rfl, hb1⟩
    have HB1 := Lib.hid hb1
    clear hb1
    go_wp2_with fail
    refine (C2.out _ HB1.out).mono ?_
    rintro e v2 ⟨rfl, hb2⟩
    have HB2 := Lib.hid (below_on HB1.out hb2)
    clear hb2
    go_wp2_with fail
    refine (C3.out _ HB2.out).mono ?_
    rintro e v3 ⟨rfl, hb3⟩
    have HB3 := Lib.hid (below_on HB2.out hb3)
    clear hb3
    go_wp2_with fail
    refine (C4.out _ HB3.out).mono ?_
    rintro e v4 ⟨rfl, hb4⟩
    have HB4 := Lib.hid (below_on HB3.out hb4)
    clear hb4
    go_wp2_with fail
    refine (C5.out _ HB4.out).mono ?_
    rintro e v5 ⟨rfl, hb5⟩
    have HB5 := Lib.hid (below_on HB4.out hb5)
    clear hb5
    go_wp2_with fail
    refine (C6.out _ HB5.out).mono ?_
    rintro e v6 ⟨rfl, hb6⟩
    have hb6' := below_on HB5.out hb6
    have HB6 := Lib.hid (hb6'.alloc hb6'.size (.cells #[.int .i64 (-2), .int .i64 0] 44))
    clear hb6 hb6'
    go_wp2_with fail
    refine (C7.out _).mono ?_
    rintro e v7 ⟨rfl, hb7⟩
    have HB7 := Lib.hid (below_on HB6.out hb7)
    clear hb7
    go_wp2
    go_ret
    exact ⟨rfl, HB7.out⟩
  rw [hE] at C5 C6
  obtain ⟨z1, z2⟩ := spansE_zero hE
  have h40 : len ≤ 40 := by have := HL.out; omega
  have HZ := Lib.hid z2
  have HE := Lib.hid hE
  clear z1 z2 hE
  -- Kept
  obtain ⟨KL, E1, dr, C1, H1⟩ : ∃ (KL : List Bool) (E1 : Int) (dr : Bool), Hid (Calls Try.prog 21 #[.slice a len cap, .int .i64 x1] w fun e w' => ∃ q c, e = .returned (.tuple #[.slice q KL.length c, .int .i64 E1]) ∧ Tab w' q KL.length c 1 (KL.map bC) ∧ Below w.heap.size w w') ∧ Hid ((decide (0 ≤ x1) && decide (x1 ≤ 72057594037927935)) = dr ∧ (dr = true ∧ KL = keptL L x1 ∧ E1 = 0 ∨ dr = false ∧ KL = [] ∧ E1 = 1)) := by
    by_cases hr : x1 < 0 ∨ 72057594037927936 ≤ x1
    · refine ⟨[], 1, false, Lib.hid ((kept_arg a len cap L x1 w HT.out HE.out hr).mono ?_), Lib.hid ⟨?_, Or.inr ⟨rfl, rfl, rfl⟩⟩⟩
      · rintro e w' ⟨rfl, hb⟩
        exact ⟨none, 0, rfl, (Own.nil w' 0 4 1).tab_of, hb⟩
      · rw [Bool.and_eq_false_iff, decide_eq_false_iff_not, decide_eq_false_iff_not]; omega
    · refine ⟨keptL L x1, 0, true, Lib.hid ((kept_ok a len cap L x1 w HT.out HE.out (by omega) (by omega)).mono ?_), Lib.hid ⟨?_, Or.inl ⟨rfl, rfl, rfl⟩⟩⟩
      · rintro e w' ⟨v, rfl, hO, hb⟩
        obtain ⟨q, c, rfl, hT⟩ := hO.tab
        rw [List.length_map] at hT ⊢
        exact ⟨q, c, rfl, hT, hb⟩
      · rw [Bool.and_eq_true, decide_eq_true_iff, decide_eq_true_iff]; omega
  -- Whole and Count
  obtain ⟨W2, E2, N2, C2, C4, H2⟩ : ∃ (W2 : Bool) (E2 N2 : Int), Hid (∀ W, Below w.heap.size w W → Calls Try.prog 22 #[.slice a len cap, .slice ka kl kc] W fun e w' => e = .returned (.tuple #[.bool W2, .int .i64 E2]) ∧ Below W.heap.size W w') ∧ Hid (∀ W, Below w.heap.size w W → Calls Try.prog 24 #[.slice a len cap, .slice ka kl kc] W fun e w' => e = .returned (.tuple #[.int .i64 N2, .int .i64 E2]) ∧ Below W.heap.size W w') ∧ Hid (kl = len ∧ E2 = 0 ∧ (W2 = true ↔ WholeP L K) ∧ N2 = countTo L K len ∨ kl ≠ len ∧ E2 = 7 ∧ W2 = false ∧ N2 = 0) := by
    by_cases hk : kl = len
    · obtain ⟨W2, hW2⟩ := is_it (WholeP L K)
      have e0 := keptE_ok (n := kl) HE.out (by rw [HL.out]; exact hk)
      refine ⟨W2, 0, countTo L K kl, Lib.hid (fun W hb => whole_ok a ka len cap kl kc L K W (HT.out.below hb) (HTK.out.below hb) e0 W2 hW2), Lib.hid (fun W hb => count_ok a ka len cap kl kc L K W (HT.out.below hb) (HTK.out.below hb) e0), Lib.hid (Or.inl ⟨hk, rfl, hW2, by rw [hk]⟩)⟩
    · have e7 := keptE_len (n := kl) HE.out (by rw [HL.out]; exact hk)
      refine ⟨false, 7, 0, Lib.hid (fun W hb => ?_), Lib.hid (fun W hb => ?_), Lib.hid (Or.inr ⟨hk, rfl, rfl, rfl⟩)⟩
      · have := whole_bad a ka len cap kl kc L W (HT.out.below hb) (by rw [e7]; decide)
        rw [e7] at this; exact this
      · have := count_bad a ka len cap kl kc L W (HT.out.below hb) (by rw [e7]; decide)
        rw [e7] at this; exact this
  have C3 := Lib.hid (fun W (hb : Below w.heap.size w W) => mend_ok a len cap L W (HT.out.below hb) HE.out)
  have HML := Lib.hid (mendL_len L)
  rw [HL.out] at HML
  have HLOW := Lib.hid (fun (c : Nat → Bool) (i : Nat) (u v : Int) (hs : L[i]? = some (u, v)) (hc : ∀ j, c j = true ↔ Under L j i) => low_mend HE.out hs hc)
  rw [HL.out] at HLOW
  obtain ⟨M, hMM⟩ : ∃ M, mendL L = M := ⟨_, rfl⟩
  rw [hMM] at C3 HML HLOW
  clear hMM
  go_enter Try.func4, Try.ntmps4
  go_wp2_with fail
  refine C1.out.mono ?_
  rintro e v1 ⟨q1, c1, rfl, hT1, hb1⟩
  have HT1 := Lib.hid hT1
  have HB1 := Lib.hid hb1
  clear hb1 hT1 C1
  go_wp2_with fail
  refine (C2.out _ HB1.out).mono ?_
  rintro e v2 ⟨rfl, hb2⟩
  have HB12 := Lib.hid hb2
  have HB2 := Lib.hid (below_on HB1.out hb2)
  clear hb2 C2
  go_wp2_with fail
  refine (C3.out _ HB2.out).mono ?_
  rintro e v3 ⟨s3, rfl, hO3, hb3⟩
  obtain ⟨q3, c3, rfl, hT3⟩ := hO3.tab
  rw [List.length_map, HML.out] at hT3 ⊢
  have HT3 := Lib.hid hT3
  have HB13 := Lib.hid (below_on HB12.out hb3)
  have HB3 := Lib.hid (below_on HB2.out hb3)
  clear hb3 hT3 hO3 C3 HB12
  go_wp2_with fail
  refine (C4.out _ HB3.out).mono ?_
  rintro e v4 ⟨rfl, hb4⟩
  have HB34 := Lib.hid hb4
  have HB4 := Lib.hid (below_on HB3.out hb4)
  clear hb4 C4
  go_wp2_with fail
  refine (C5.out _ HB4.out).mono ?_
  rintro e v5 ⟨rfl, hb5⟩
  have HB35 := Lib.hid (below_on HB34.out hb5)
  have HB5 := Lib.hid (below_on HB4.out hb5)
  clear hb5 C5 HB34
  go_wp2_with fail
  refine (C6.out _ HB5.out).mono ?_
  rintro e v6 ⟨rfl, hb6⟩
  have hb6' := below_on HB5.out hb6
  have hb36 := below_on HB35.out hb6
  have HB36 := Lib.hid (hb36.alloc hb36.size (.cells #[.int .i64 (-2), .int .i64 0] 44))
  have HB6 := Lib.hid (hb6'.alloc hb6'.size (.cells #[.int .i64 (-2), .int .i64 0] 44))
  clear hb6 hb6' hb36 C6
  go_wp2_with fail
  refine (C7.out _).mono ?_
  rintro e v7 ⟨rfl, hb7⟩
  have HB7 := Lib.hid (below_on HB6.out hb7)
  have HT37 := Lib.hid (HT3.out.below (below_on HB36.out hb7))
  have HT17 := Lib.hid (HT1.out.below (below_on HB13.out (below_on HB36.out hb7)))
  have HTL := Lib.hid (HT.out.below HB7.out)
  have HTK7 := Lib.hid (HTK.out.below HB7.out)
  clear hb7 C7 HB1 HB2 HB3 HB4 HB5 HB6 HB13 HB35 HB36 HT1 HT3 HT HTK
  go_wp2_with fail
  go_loopg [16, 17, 100] len (fun g vm va i wr => ∃ k : Nat, k + g = len ∧ i = .int .i64 k ∧ Hid (Grow2 v7 wr vm va ((M.take k).map iiC) (((keptL L x1).take k).map bC)))
  case atStart => exact ⟨0, by omega, rfl, Lib.hid ⟨Own.nil _ _ _ _, Own.nil _ _ _ _, (apart_nil _).symm, Below.refl _ _⟩⟩
  case round =>
    obtain ⟨k, hk0, rfl, HG⟩ := hrel
    have HJ := Lib.hid hk0
    have hk : k ≤ len := by omega
    clear hk0
    by_cases hlt : k < len
    · obtain ⟨⟨u, v⟩, hx⟩ : ∃ x, L[k]? = some x := ⟨_, List.getElem?_eq_getElem (by rw [HL.out]; exact hlt)⟩
      obtain ⟨b1, o1, ha, hbs, c0, c2⟩ := HTL.out.two HG.out.bel (map_get hx)
      have hz := HZ.out k _ hx
      simp only at hz
      obtain ⟨n, rfl⟩ := Int.eq_ofNat_of_zero_le hz.2.2.1
      have hn : n ≤ 20 := by omega
      obtain ⟨c, hc⟩ := which L k
      have hlow := HLOW.out c k u n hx hc
      have HNM := Lib.hid (map_take1 (f := iiC) hlow)
      have HNA := Lib.hid (map_take1 (f := bC) (keptL_get (r := x1) hx))
      have HU := Lib.hid (fun (j : Nat) (hj : j < len) (W : World) (hb : Below v7.heap.size v7 W) => under_same a len cap L j k W (HTL.out.below hb) (fun i s hs => ⟨(HZ.out i s hs).1, (HZ.out i s hs).2.1⟩) h40 hj (c j) (hc j))
      have HLV := Lib.hid (fun W => refLevel_any n hn W)
      have HH := Lib.hid (Held2.new HG.out u n)
      have hLM : ((M.take k).map iiC).length ≤ 40 := by rw [List.length_map, List.length_take]; omega
      have hLA : (((keptL L x1).take k).map bC).length ≤ 40 := by rw [List.length_map, List.length_take]; omega
      have HLL := Lib.hid (And.intro hLM hLA)
      rw [show ((two56 - keptAt n : Nat) : Int) = thr (n : Int) from by unfold thr; rw [Int.toNat_natCast]] at HLV
      simp only at HNA
      generalize thr (n : Int) = T at *
      generalize (M.take k).map iiC = RM at *
      generalize ((keptL L x1).take k).map bC = RA at *
      obtain ⟨wo, hwo⟩ : ∃ wo, wo = wr := ⟨_, rfl⟩
      subst hwo
      subst ha
      clear hx hlow hz hLM hLA
      go_wp2_with fail
      refine (HLV.out _).mono ?_
      rintro e w5 ⟨rfl, rfl⟩
      go_wp2_with (at_builtin; refine wpList_append_rows_at _ rfl _ _ 34 rfl v7.heap.size 4 _ 1 1 Try.underlying34 info_bool rfl (by decide) _ RA rfl (HH.out.two.oa.alloc _) ⟨wo.heap.size + 1, 0, none⟩ 1 1 [bC (decide (T ≤ x1))] rfl rfl (by simp [bC]) (one_row _ (bC (decide (T ≤ x1))) 4 _ (by simp)) (by simp [bC, Value.oneCell']) (by have := HLL.out.2; omega) (by decide) (Nat.le_trans HH.out.two.bel.size (by simp)) ?_; intro va' w6 hO6 hg6 hv6; have HH6 := Lib.hid (HH.out.pushA _ hO6 hg6 hv6); clear hO6 hg6 hv6)
      generalize hBB : wo.heap.size = B at *
      clear hBB HH HG
      go_loopg [115] len (fun g i wx => ∃ (j : Nat) (V : Int), j + g = len ∧ i = .int .i64 j ∧ Hid (V = lowTo L c n j) ∧ Hid (Held2 v7 wx u16 va' RM (RA ++ [bC (decide (T ≤ x1))]) B u V))
      case atStart => exact ⟨0, n, by omega, rfl, Lib.hid rfl, HH6⟩
      case round =>
        clear HH6
        obtain ⟨j, V, hj0, rfl, HV, HH⟩ := hrel
        have HJJ := Lib.hid hj0
        have hj : j ≤ len := by omega
        clear hj0
        by_cases hjl : j < len
        · obtain ⟨⟨u2, y⟩, hy⟩ : ∃ x, L[j]? = some x := ⟨_, List.getElem?_eq_getElem (by rw [HL.out]; exact hjl)⟩
          obtain ⟨b2, o2, ha2, hbs2, d0, d1⟩ := HTL.out.two HH.out.two.bel (map_get hy)
          simp only [Option.some.injEq, Addr.mk.injEq, and_true] at ha2
          obtain ⟨rfl, rfl⟩ := ha2
          obtain ⟨⟨p0, p1⟩, f0, f1⟩ := box2_cells HH.out.box
          have HUj := Lib.hid (fun W hb => HU.out j hjl W hb)
          have HY := Lib.hid hy
          clear hy
          by_cases hcj : c j = true
          · rw [hcj] at HUj
            by_cases ht : y < V
            · have HNX : Hid (y = lowTo L c n (j + 1)) := Lib.hid (by rw [lowTo_yes HY.out hcj (by rw [← HV.out]; exact ht)])
              have td : decide (y < V) = true := decide_eq_true ht
              clear hcj
              go_wp2_with fail
              go_quiet (first | (go_at_call 28; exact Calls.quiet_of_same (HUj.out _ (below_drewN HH.out.two.bel _))))
              go_wp2_with fail
              go_roundg (len - (j + 1))
              case measure => have := HJJ.out; omega
              case rel => exact ⟨j + 1, y, by omega, by go_num, HNX, Lib.hid ((HH.out.below (below_drewN (Below.refl _ _) _)).set y)⟩
            · have HNX : Hid (V = lowTo L c n (j + 1)) := Lib.hid (by rw [lowTo_more HY.out (by rw [← HV.out]; simp only; omega)]; exact HV.out)
              have td : decide (y < V) = false := decide_eq_false ht
              clear hcj ht
              go_wp2_with fail
              go_quiet (first | (go_at_call 28; exact Calls.quiet_of_same (HUj.out _ (below_drewN HH.out.two.bel _))))
              go_wp2_with fail
              go_roundg (len - (j + 1))
              case measure => have := HJJ.out; omega
              case rel => exact ⟨j + 1, V, by omega, by go_num, HNX, Lib.hid (HH.out.below (below_drewN (Below.refl _ _) _))⟩
          · have hcj' : c j = false := by simpa using hcj
            rw [hcj'] at HUj
            have HNX : Hid (V = lowTo L c n (j + 1)) := Lib.hid (by rw [lowTo_far HY.out hcj']; exact HV.out)
            clear hcj hcj'
            go_wp2_with fail
            go_quiet (first | (go_at_call 28; exact Calls.quiet_of_same (HUj.out _ (below_drewN HH.out.two.bel _))))
            go_wp2_with fail
            go_roundg (len - (j + 1))
            case measure => have := HJJ.out; omega
            case rel => exact ⟨j + 1, V, by omega, by go_num, HNX, Lib.hid (HH.out.below (below_drewN (Below.refl _ _) _))⟩
        · obtain rfl : j = len := by omega
          obtain ⟨⟨p0, p1⟩, f0, f1⟩ := box2_cells HH.out.box
          go_wp2_with (at_builtin; refine wpList_append_rows_at _ rfl _ _ 33 rfl v7.heap.size 44 _ 2 16 Try.underlying33 info_span rfl (by decide) _ RM rfl (HH.out.two.om.alloc _) ⟨wr.heap.size, 0, none⟩ 1 1 [iiC (u, V)] rfl rfl (by simp [iiC]) (one_row wr (iiC (u, V)) 44 _ rfl) (by simp [iiC, Value.oneCell']) (by have := HLL.out.1; omega) (by decide) (Nat.le_trans HH.out.two.bel.size (by simp)) ?_; intro vm' w7 hO7 hg7 hv7)
          go_roundg (j - (k + 1))
          case measure => have := HJ.out; omega
          case rel =>
            refine ⟨k + 1, by omega, by go_num, ?_⟩
            rw [HNM.out, HNA.out, ← HV.out]
            exact Lib.hid ((HH.out.two.alloc _).pushM hO7 hg7 hv7)
    · obtain rfl : k = len := by omega
      have hgm := HG.out.om
      have hga := HG.out.oa
      rw [List.take_of_length_le (by rw [HML.out]; exact Nat.le_refl _)] at hgm
      rw [List.take_of_length_le (by rw [keptL_len, HL.out]; exact Nat.le_refl _)] at hga
      obtain ⟨qm, cm, rfl, hTm⟩ := hgm.tab
      obtain ⟨qa, ca, rfl, hTa⟩ := hga.tab
      rw [List.length_map, HML.out] at hTm ⊢
      rw [List.length_map, keptL_len, HL.out] at hTa ⊢
      have CE := Lib.hid (equal_spans q3 qm k c3 k cm M M wr (HT37.out.below HG.out.bel) hTm true (by simp))
      have HTa := Lib.hid hTa
      have HGB := Lib.hid HG.out.bel
      clear hgm hga hTm hTa HG HJ hk hlt HLOW
      go_wp2_with fail
      refine CE.out.mono ?_
      rintro e v8 ⟨rfl, hb8⟩
      have HB78 := Lib.hid (below_on HGB.out hb8)
      have HTa8 := Lib.hid (HTa.out.below hb8)
      have HT18 := Lib.hid (HT17.out.below HB78.out)
      have CD := refDraw_any x1 v8
      rw [H1.out.1] at CD
      have CDD := Lib.hid CD
      clear hb8 CE HTa HGB HT17 HT37 CD
      go_wp2_with fail
      refine CDD.out.mono ?_
      rintro e w9 ⟨rfl, rfl⟩
      clear CDD
      go_upto_if 154 with fail
      go_cut [] (fun wx => Hid (Below v8.heap.size v8 wx))
      case first =>
        rcases H1.out.2 with ⟨rfl, hKL, rfl⟩ | ⟨rfl, hKL, rfl⟩
        · have CE2 := Lib.hid (equal_bools q1 qa KL.length c1 k ca KL (keptL L x1) v8 HT18.out HTa8.out true (by simp [hKL]))
          clear H1 hKL
          go_wp2_with fail
          refine CE2.out.mono ?_
          rintro e w10 ⟨rfl, hb10⟩
          go_wp2_with fail
          go_meet
          case rel => exact Lib.hid hb10
        · subst hKL
          clear H1
          go_wp2_with fail
          go_meet
          case rel => exact Lib.hid (Below.refl _ _)
      case rest =>
      have HBC : Hid (Below v8.heap.size v8 wc) := hcut
      have HB9 := Lib.hid (below_on HB78.out HBC.out)
      clear hcut H1 HTa8 HT18 HBC HB78
      obtain ⟨wd, hwd⟩ : ∃ w', w' = wc := ⟨_, rfl⟩
      subst hwd
      rcases H2.out with ⟨hkk, rfl, hW2, hN2⟩ | ⟨hkk, rfl, rfl, rfl⟩
      case inr =>
        have t : ((kl : Int) != (k : Int)) = true := by rw [bne_iff_ne]; omega
        clear hkk H2
        go_wp2
        go_ret
        exact ⟨rfl, below_on HB7.out HB9.out⟩
      case inl =>
      have HW2 := Lib.hid hW2
      have HN2 := Lib.hid hN2
      subst hkk
      have t : ((kl : Int) != (kl : Int)) = false := by simp
      clear hW2 hN2 H2
      have HTL9 := Lib.hid (HTL.out.below HB9.out)
      have HTK9 := Lib.hid (HTK7.out.below HB9.out)
      clear HTL HTK7
      go_wp2_with fail
      clear t
      go_loopg [21, 22, 191] kl (fun g s t i wr => ∃ (j : Nat) (W : Bool) (A : Int), j + g = kl ∧ i = .int .i64 j ∧ s = .bool W ∧ t = .int .i64 A ∧ 0 ≤ A ∧ A ≤ (j : Int) * 1048576 ∧ Hid (W = true ↔ WholeTo L K j) ∧ Hid (A = countTo L K j) ∧ Hid (Below wd.heap.size wd wr))
      case atStart => exact ⟨0, true, 0, by omega, rfl, rfl, rfl, by omega, by omega, Lib.hid ⟨fun _ i s hi => by omega, fun _ => rfl⟩, Lib.hid rfl, Lib.hid (Below.refl _ _)⟩
      case round =>
        obtain ⟨j, W, A, hj0, rfl, rfl, rfl, hA0, hA1, HWT, HA, HB⟩ := hrel
        have HJ := Lib.hid hj0
        have hj : j ≤ kl := by omega
        clear hj0
        by_cases hjl : j < kl
        · obtain ⟨⟨u, v⟩, hx⟩ : ∃ x, L[j]? = some x := ⟨_, List.getElem?_eq_getElem (by rw [HL.out]; exact hjl)⟩
          obtain ⟨b, hb⟩ : ∃ x, K[j]? = some x := ⟨_, List.getElem?_eq_getElem (by rw [HLK.out]; exact hjl)⟩
          obtain ⟨b1, o1, ha, hbs, c0, c2⟩ := HTL9.out.two HB.out (map_get hx)
          have HB2 := Lib.hid (HB.out.alloc HB.out.size (.cells #[.int .i64 u, .int .i64 v] 44))
          obtain ⟨b2, o2, ha2, hbs2, d0⟩ := HTK9.out.one HB2.out (map_get hb)
          have hz := HZ.out j _ hx
          simp only at hz
          obtain ⟨n, rfl⟩ := Int.eq_ofNat_of_zero_le hz.2.2.1
          have hn : n ≤ 20 := by omega
          have hu0 := hz.1
          have hu1 := hz.2.1
          subst ha ha2
          cases b
          · have HN := Lib.hid (countTo_no (l := L) hb)
            have HWN := Lib.hid (HWT.out.trans (wholeTo_no (l := L) hb).symm)
            clear hx hb hz hu0 hu1
            go_wp2_with fail
            go_roundg (kl - (j + 1))
            case measure => have := HJ.out; omega
            case rel => exact ⟨j + 1, W, A, by omega, by go_num, rfl, rfl, hA0, by omega, HWN, Lib.hid (by rw [HN.out, HA.out]), HB2⟩
          · have HN := Lib.hid (countTo_yes hx hb)
            simp only at HN
            rw [Int.toNat_natCast] at HN
            obtain ⟨W', hW'⟩ := is_it (WholeTo L K (j + 1))
            have HWN := Lib.hid hW'
            have HWX := Lib.hid (wholeTo_yes hx hb)
            have HLV := Lib.hid (fun W => refLevel_any n hn W)
            rw [show ((two56 - keptAt n : Nat) : Int) = thr (n : Int) from by unfold thr; rw [Int.toNat_natCast]] at HLV
            have htb := thr_bd (n : Int)
            have hq := quo_level hn
            have hp := pow20 n hn
            obtain ⟨P, hPP⟩ : ∃ P : Nat, 2 ^ n = P := ⟨_, rfl⟩
            rw [hPP] at hq hp HN
            have HQ := Lib.hid hq
            generalize thr (n : Int) = T at *
            obtain ⟨T0, T1⟩ := htb
            obtain ⟨P0, P1⟩ := hp
            obtain ⟨wi, hwi⟩ : ∃ wi, wi = wr := ⟨_, rfl⟩
            subst hwi
            clear hx hb hz hW' hPP hq
            go_upto_region 38 with fail
            go_cut [21] (fun s wx => s = .bool W' ∧ wx = wi.alloc (.cells #[.int .i64 u, .int .i64 (n : Int)] 44))
            case first =>
              cases W
              · obtain rfl : W' = false := by
                  cases W'
                  · rfl
                  · have := HWT.out.2 (HWX.out.1 (HWN.out.1 rfl)).1
                    cases this
                go_wp2_with fail
                go_meet
                case rel => exact ⟨rfl, rfl⟩
              · by_cases hu : u = -1
                · subst hu
                  obtain rfl : W' = true := HWN.out.2 (HWX.out.2 ⟨HWT.out.1 rfl, by simp⟩)
                  go_wp2_with fail
                  go_meet
                  case rel => exact ⟨rfl, rfl⟩
                · obtain ⟨m, rfl⟩ := Int.eq_ofNat_of_zero_le (show 0 ≤ u by omega)
                  have hm : m < kl := by omega
                  obtain ⟨p, hp⟩ : ∃ x, K[m]? = some x := ⟨_, List.getElem?_eq_getElem (by rw [HLK.out]; exact hm)⟩
                  obtain ⟨b3, o3, ha3, hbs3, d3⟩ := HTK9.out.one HB2.out (map_get hp)
                  simp only [Option.some.injEq, Addr.mk.injEq, and_true] at ha3
                  obtain ⟨rfl, rfl⟩ := ha3
                  obtain rfl : W' = p := by
                    have h1 := HWN.out.trans HWX.out
                    rw [Int.toNat_natCast, hp] at h1
                    have h2 := HWT.out.1 rfl
                    cases W' <;> cases p
                    · rfl
                    · exact (h1.2 ⟨h2, Or.inr rfl⟩).symm ▸ rfl
                    · rcases (h1.1 rfl).2 with e | e
                      · exact absurd e hu
                      · cases e
                    · rfl
                  clear hp hu hu0
                  go_wp2_with fail
                  go_meet
                  case rel => exact ⟨rfl, rfl⟩
            case rest =>
            obtain ⟨rfl, rfl⟩ := hcut
            clear HWX HWT
            go_wp2_with fail
            refine (HLV.out _).mono ?_
            rintro e w12 ⟨rfl, rfl⟩
            go_wp2_with fail
            go_roundg (kl - (j + 1))
            case measure => have := HJ.out; omega
            case rel => exact ⟨j + 1, W', A + (P : Int), by omega, by go_num, rfl, by rw [HQ.out]; exact congrArg (Value.int IntKind.i64) (by unfold wrap64; omega), by omega, by omega, HWN, Lib.hid (by rw [HN.out, HA.out]), HB2⟩
        · obtain rfl : j = kl := by omega
          obtain rfl : W2 = W := Bool.eq_iff_iff.2 (HW2.out.trans ((wholeTo_all HL.out).symm.trans HWT.out.symm))
          obtain rfl : N2 = A := by rw [HN2.out, HA.out]
          have t8 : (W2 == W2) = true := by simp
          have t9 : (N2 == N2) = true := by simp
          clear HW2 HN2 HWT HA
          go_wp2
          go_ret
          exact ⟨rfl, below_on HB7.out (below_on HB9.out HB.out)⟩

set_option maxRecDepth 100000 in
theorem lifted (os : Os) (started : os.Started) (H : Type) (enc : TypeId × Value → H) :
    ReturnsInHanded {} Try.checked os 4 .any (Rows.spanSaysSpec.pre6 enc Try.prog Try.f4 Rows.spanSaysRow.domain false) (Rows.spanSaysSpec.post enc Try.prog Try.f4 false true false false) := by
  refine returnsInHanded_of_change_sized (C := Try.checked) own started (by kernel_rfl) Try.func4
    (ChangeSpec.witness6 (enc := enc) (C := Try.checked) false ⟨#[], #[.slice none 0 0, .int .i64 0, .slice none 0 0], []⟩ 8 (by kernel_rfl) (by kernel_rfl) (by kernel_rfl) (by kernel_rfl)) ?_
  intro W base args ds gs before hval0 hW hcnd hsz0 _
  have hval : ∀ (j : Nat) t v, Try.f4.params[j]? = some t → args[j]? = some v → Value.okWide Try.prog W .any base t v := hval0
  have hW' := hW
  obtain ⟨p, q, hA0, hV, rfl, hfz, hnd⟩ := hW
  have hA : DataW.TrodAll enc Try.prog W 0 (fun _ => true) true Try.f4.params.toList args.toList ds p := hA0
  have hsz : (DataW.weightsEach Try.prog (Try.f4.params.toList ++ Rows.spanSaysSpec.plain.varTypes Try.prog) (ds ++ gs)).all (· ≤ reachBytes) = true := hsz0
  rw [Try.params4] at hA hval hsz
  obtain ⟨v0, vs0, d0, ds0, p0, q0, hargs, rfl, rfl, h0, r0⟩ := trodAll_cons hA
  obtain ⟨v1, vs1, d1, ds1, p1, q1, rfl, rfl, rfl, h1, r1⟩ := trodAll_cons r0
  obtain ⟨v2, vs2, d2, ds2, p2, q2, rfl, rfl, rfl, h2, r2⟩ := trodAll_cons r1
  obtain ⟨rfl, rfl, rfl⟩ := trodAll_nil r2
  obtain rfl : args = #[v0, v1, v2] := by cases args; simp_all
  obtain ⟨rfl, rfl⟩ := trodVars_none hV
  have k0 := h0
  have L0 := light_of hsz (j := 0) (t := 33) (d := d0) rfl rfl
  have lt0 : ∀ x ∈ p0, x.block < W.heap.size := by obtain ⟨m, hm⟩ := k0; exact DataW.trod_lt m _ _ _ hm
  obtain ⟨a0, len0, cap0, rfl⟩ := okWide_slice Try.underlying33 (hval 0 33 v0 rfl rfl)
  obtain ⟨n0, f0⟩ := trod_slice_of Try.underlying33 h0
  have F0 := And.intro f0 L0
  obtain ⟨x0, e0, t0, b0, o0⟩ := el_slice (w := W) (k := 2) iiC wfII (by decide) Try.underlying33 (by kernel_rfl) (el_ii Try.underlying44 (by kernel_rfl) (by kernel_rfl) Try.underlying3 Try.underlying3) (B := 16) (by kernel_rfl) _ _ _ F0.1 F0.2
  simp only [slC, List.cons.injEq, Value.slice.injEq, and_true] at e0
  obtain ⟨rfl, rfl, rfl⟩ := e0
  have k1 := h1
  have L1 := light_of hsz (j := 1) (t := 3) (d := d1) rfl rfl
  have lt1 : ∀ x ∈ p1, x.block < W.heap.size := by obtain ⟨m, hm⟩ := k1; exact DataW.trod_lt m _ _ _ hm
  obtain ⟨x1, rfl, rfl, rfl, w1⟩ := open_int Try.underlying3 (hval 1 3 v1 rfl rfl) h1
  have k2 := h2
  have L2 := light_of hsz (j := 2) (t := 34) (d := d2) rfl rfl
  have lt2 : ∀ x ∈ p2, x.block < W.heap.size := by obtain ⟨m, hm⟩ := k2; exact DataW.trod_lt m _ _ _ hm
  obtain ⟨a2, len2, cap2, rfl⟩ := okWide_slice Try.underlying34 (hval 2 34 v2 rfl rfl)
  obtain ⟨n2, f2⟩ := trod_slice_of Try.underlying34 h2
  have F2 := And.intro f2 L2
  obtain ⟨x2, e2, t2, b2, o2⟩ := el_slice (w := W) (k := 1) bC (fun _ => True) (by decide) Try.underlying34 (by kernel_rfl) (el_bool Try.underlying4) (B := 1) (by kernel_rfl) _ _ _ F2.1 F2.2
  simp only [slC, List.cons.injEq, Value.slice.injEq, and_true] at e2
  obtain ⟨rfl, rfl, rfl⟩ := e2
  clear hA0 hval0
  refine (walk x0 x1 x2 W t0 b0 o0 w1 t2 b2 o2).mono fun e W' ⟨he, hg⟩ => ?_
  subst he
  exact ⟨_, rfl, _, _, _, [], _, [], hW', trodAll_mk1 (shut_bool Try.underlying4 _), (trodAll_cons_mk (Below.trod laidOut (by kernel_rfl) (of_decide_eq_true (by kernel_rfl)) k0 hg lt0) (trodAll_cons_mk (Below.trod laidOut (by kernel_rfl) (of_decide_eq_true (by kernel_rfl)) k1 hg lt1) (trodAll_cons_mk (Below.trod laidOut (by kernel_rfl) (of_decide_eq_true (by kernel_rfl)) k2 hg lt2) trodAll_mk0))), rfl, hg.frame _, fun h => by cases h⟩

theorem over : Rows.spanSaysRow.holds Try.pinned (OpenSpec.ofChange Rows.spanSaysSpec) :=
  OpenClaim.holds_of_wide 4 Try.f4 rfl rfl rfl rfl rfl rfl rfl ⟨rfl, rfl, rfl, rfl, rfl⟩ rfl rfl rfl rfl rfl (by kernel_rfl) Try.func4 (by kernel_rfl)
    (of_decide_eq_true (by kernel_rfl)) (by unfold Func.isWrapper; first | (rw [if_pos (by decide +kernel)]; kernel_rfl) | (rw [if_neg (by decide +kernel)]; exact ⟨rfl, rfl⟩))
    (fun os started H enc _ => lifted os started H enc)

/-- ████ THE STATEMENT ████ -/
theorem proved : Rows.SpanSaysSaid :=
  over
#print axioms proved
end Go.Proofs.Yteddoccgbebbeaa.spanSays
