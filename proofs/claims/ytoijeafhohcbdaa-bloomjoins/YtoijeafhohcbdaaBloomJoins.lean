/-
  'Rows.BloomJoinsSaid' is proved: order, repetition and grouping of the keys that come have no effect on a filter. No condition.
-/
import Derived.Test.YtoijeafhohcbdaaRows
import Derived.Test.YtoijeafhohcbdaaShapes
import Derived.Test.YtoijeafhohcbdaaBloomKeys
import Derived.Test.YtoijeafhohcbdaaBloomJoin
import Derived.Test.YtoijeafhohcbdaaSameF
import Derived.Test.YtoijeafhohcbdaaConcatInts
import Derived.Test.YtoijeafhohcbdaaLit
import Derived.Deep.DeepCutAuto
import Derived.BigQuiet
import Derived.Deep.QuietTactic
import Derived.Deep.RegionHeldLaw
import Derived.Deep.RegionHeld3
import Derived.WalkKit
import Derived.ProofKit
import Derived.OpenShut
import Derived.ShutString
import Derived.ChangeOld
import Derived.Below
namespace Go.Proofs.Ytoijeafhohcbdaa.bloomJoins
open Go.ChangeShapes Go.WideShapes Go.ChangeAt Go.RowKit
open Go.ChangeMaps (open_string shut_string)
set_option linter.unusedVariables false

theorem own : ownKnob Try.prog.godebug = none := by kernel_rfl
theorem laidOut : laidOutB Try.prog = true := by kernel_rfl

--BEATS
open Bloom
theorem bools_one (l : List Bool) : ∀ r ∈ l.map bC, r.length = 1 := rows_of bC_len l
theorem lit_one : putB [false] (places 5 1 1) = [true] := by
  have h : places 5 1 1 = [0] := by
    have h1 := places_get (k := 5) (s := 1) (n := 1) (i := 0) (by decide)
    have h2 := placeN_lt (x := keyN 5) (s := 1) (i := 0) (by decide)
    have h3 := places_len 5 1 1
    have h4 : placeN (keyN 5) 1 0 = 0 := by omega
    rw [h4] at h1
    match hp : places 5 1 1, h3, h1 with
    | [p], _, h1 => simpa using h1
  rw [h]
  rfl
theorem tab_held {W : World} {X n : Nat} {cs : Array Value} {R : List (List Value)} {t : TypeId} (hX : W.heap[X]? = some (.cells cs t (0, 0))) (hr : ∀ r ∈ R, r.length = 1) (hc : cs.toList = R.flatten := by rfl) (hn : R.length = n := by rfl) (hm : n ≤ maxLen := by decide) : Tab W (some ⟨X, 0, none⟩) n n 1 R := by
  refine ⟨hn, Nat.le_refl _, hm, fun h => (by cases h), fun _ => ⟨X, 0, rfl, (Array.getElem?_eq_some_iff.1 hX).1, fun i r hri j u hu => ?_⟩⟩
  have h := flatten_get hr hri hu
  rw [← hc] at h
  rw [Nat.zero_add]
  exact cell_blk hX (by rw [← Array.getElem?_toList]; exact h)
theorem again {s k : Nat} {B : List Bool} {l m : List Int} : putB (putB B (allP s k m)) (allP s k (l ++ l)) = putB B (allP s k (l ++ m)) := by
  rw [← putB_append, allP_append, allP_append]
  refine putB_congr (fun i => ?_)
  simp only [List.mem_append]
  constructor
  · rintro (h | h | h)
    · exact Or.inr h
    · exact Or.inl h
    · exact Or.inl h
  · rintro (h | h)
    · exact Or.inr (Or.inl h)
    · exact Or.inl h
theorem drew_below5 {w w' : World} (h : Below w.drew.heap.size w.drew w') : Below w.heap.size w w' := ((Below.refl _ _).drew.trans h)
theorem keep3 {w : World} {X Y : Nat} {x0 x1 x2 : Value} {u0 u1 u2 : Value} (h : w.cell? ⟨X, 0, none⟩ = some x0 ∧ w.cell? ⟨X, 1, none⟩ = some x1 ∧ w.cell? ⟨X, 2, none⟩ = some x2) (hne : X ≠ Y) :
    (((w.setCell ⟨Y, 0, none⟩ u0).setCell ⟨Y, 1, none⟩ u1).setCell ⟨Y, 2, none⟩ u2).cell? ⟨X, 0, none⟩ = some x0 ∧ (((w.setCell ⟨Y, 0, none⟩ u0).setCell ⟨Y, 1, none⟩ u1).setCell ⟨Y, 2, none⟩ u2).cell? ⟨X, 1, none⟩ = some x1 ∧ (((w.setCell ⟨Y, 0, none⟩ u0).setCell ⟨Y, 1, none⟩ u1).setCell ⟨Y, 2, none⟩ u2).cell? ⟨X, 2, none⟩ = some x2 := by
  have e : ∀ i : Nat, (((w.setCell ⟨Y, 0, none⟩ u0).setCell ⟨Y, 1, none⟩ u1).setCell ⟨Y, 2, none⟩ u2).cell? ⟨X, i, none⟩ = w.cell? ⟨X, i, none⟩ := fun i => by
    rw [World.cell?_of_block (Below.heap_setCell _ _ _ _ hne), World.cell?_of_block (Below.heap_setCell _ _ _ _ hne), World.cell?_of_block (Below.heap_setCell _ _ _ _ hne)]
  rw [e 0, e 1, e 2]
  exact h
theorem off_box {v W : Nat} {aB a6 : Option Addr} (hB : ∀ ad, aB = some ad → ad.block < v) (h : a6 = aB ∨ ∃ g, a6 = some ⟨g, 0, none⟩ ∧ W ≤ g) : ∀ Y, v ≤ Y → Y < W → ∀ ad, a6 = some ad → ad.block ≠ Y := by
  intro Y h1 h2 ad had
  rcases h with h | ⟨g, h, hg⟩
  · have := hB ad (by rw [← h]; exact had)
    omega
  · rw [h, Option.some.injEq] at had
    subst had
    show g ≠ Y
    omega
theorem tab3 {w : World} {a : Option Addr} {n c : Nat} {R : List (List Value)} (h : Tab w a n c 1 R) {Y : Nat} (hY : ∀ ad, a = some ad → ad.block ≠ Y) (u0 u1 u2 : Value) : Tab (((w.setCell ⟨Y, 0, none⟩ u0).setCell ⟨Y, 1, none⟩ u1).setCell ⟨Y, 2, none⟩ u2) a n c 1 R :=
  tab_set (tab_set (tab_set h Y (fun _ => hY) 0 u0) Y (fun _ => hY) 1 u1) Y (fun _ => hY) 2 u2
theorem bel3 {w0 w : World} (h : Below w0.heap.size w0 w) {Y : Nat} (hY : w0.heap.size ≤ Y) (u0 u1 u2 : Value) : Below w0.heap.size w0 (((w.setCell ⟨Y, 0, none⟩ u0).setCell ⟨Y, 1, none⟩ u1).setCell ⟨Y, 2, none⟩ u2) :=
  ((h.setCell (p := ⟨Y, 0, none⟩) hY u0).setCell (p := ⟨Y, 1, none⟩) hY u1).setCell (p := ⟨Y, 2, none⟩) hY u2
theorem both {s k : Nat} {l m : List Int} : orB (putB (List.replicate s false) (allP s k l)) (putB (List.replicate s false) (allP s k m)) = putB (List.replicate s false) (allP s k (l ++ m)) := by rw [orB_put, allP_append]
theorem both2 {s k : Nat} {l m : List Int} : orB (putB (List.replicate s false) (allP s k m)) (putB (List.replicate s false) (allP s k l)) = putB (List.replicate s false) (allP s k (l ++ m)) := by
  rw [orB_put, allP_append]
  refine putB_congr (fun i => ?_)
  rw [List.mem_append, List.mem_append]
  exact Or.comm
theorem orB_self (B : List Bool) : orB B B = B := by
  apply List.ext_getElem?
  intro i
  by_cases h : i < B.length
  · rw [orB_get (List.getElem?_eq_getElem h) (List.getElem?_eq_getElem h), List.getElem?_eq_getElem h, Bool.or_self]
  · rw [List.getElem?_eq_none (by rw [orB_len rfl]; omega), List.getElem?_eq_none (by omega)]

set_option maxRecDepth 100000 in
set_option maxHeartbeats 12000000 in
theorem walk (x0 : Int) (x1 : Int) (x2 : Sl Int) (x3 : Sl Int) (w : World) (w0 : (Lit.int .i64 x0).wf = true) (w1 : (Lit.int .i64 x1).wf = true) (t2 : Tab w x2.a x2.len x2.cap 1 (x2.l.map iC)) (b2 : x2.len * 8 ≤ 140737488351232) (o2 : ∀ z ∈ x2.l, wfI z) (t3 : Tab w x3.a x3.len x3.cap 1 (x3.l.map iC)) (b3 : x3.len * 8 ≤ 140737488351232) (o3 : ∀ z ∈ x3.l, wfI z) :
    Calls Try.prog 8 #[.int .i64 x0, .int .i64 x1, .slice x2.a x2.len x2.cap, .slice x3.a x3.len x3.cap] w fun e w' => e = .returned (.bool true) ∧ Below w.heap.size w w' := by
  obtain ⟨a, len, cap, L⟩ := x2
  obtain ⟨b, len1, cap1, M⟩ := x3
  have hm : cap ≤ 9223372036854775807 := by have h := t2.hmax; unfold maxLen at h; simpa using h
  have hle : len ≤ cap := t2.hle
  have hm1 : cap1 ≤ 9223372036854775807 := by have h := t3.hmax; unfold maxLen at h; simpa using h
  have hle1 : len1 ≤ cap1 := t3.hle
  obtain ⟨nl, hnl⟩ : ∃ n, min len 50 = n := ⟨_, rfl⟩
  obtain ⟨nm, hnm⟩ : ∃ n, min len1 50 = n := ⟨_, rfl⟩
  have hnl1 : nl ≤ len := by omega
  have hnl2 : nl ≤ 50 := by omega
  have hnm1 : nm ≤ len1 := by omega
  have hnm2 : nm ≤ 50 := by omega
  have hmin1 : min (len : Int) 50 = (nl : Int) := by omega
  have hmin2 : min (len1 : Int) 50 = (nm : Int) := by omega
  have HMIN := Lib.hid (And.intro hmin1 hmin2)
  have hl : L.length = len := by have h := t2.hlen; rw [List.length_map] at h; exact h
  have hl1 : M.length = len1 := by have h := t3.hlen; rw [List.length_map] at h; exact h
  have hT1 : Tab w a nl cap 1 ((L.take nl).map iC) := by have h := t2.upto_ nl hnl1; rw [← List.map_take] at h; exact h
  have hT2 : Tab w b nm cap1 1 ((M.take nm).map iC) := by have h := t3.upto_ nm hnm1; rw [← List.map_take] at h; exact h
  have hlA : (L.take nl).length = nl := by rw [List.length_take]; omega
  have hlB : (M.take nm).length = nm := by rw [List.length_take]; omega
  have hTA : (L.take nl).take 100 = L.take nl := List.take_of_length_le (by omega)
  have hTB : (M.take nm).take 100 = M.take nm := List.take_of_length_le (by omega)
  clear hnl hnm hl hl1 hmin1 hmin2 t2 t3 o2 o3 b2 b3
  generalize L.take nl = LL at *
  generalize M.take nm = MM at *
  have bb0 := wf_i64 w0
  have bb1 := wf_i64 w1
  have HEm := fun W => empty_any x0 x1 W bb0 bb1
  have s1 := (sizeB_bd x0).2.1
  have s2 := (sizeB_bd x0).2.2
  have k1 := (waysB_bd x1).2.1
  have k2 := (waysB_bd x1).2.2
  generalize sizeB x0 = s at *
  generalize waysB x1 = k at *
  replace HEm := Lib.hid HEm
  have hE := filterE_ok s1 s2 k1 k2
  have bl : Below w.heap.size w (w.alloc (.cells #[.bool false] 4)) := (Below.refl _ _).alloc (Nat.le_refl _) _
  have C0 := fput_ok 1 1 (some ⟨w.heap.size, 0, none⟩) 1 1 [false] 5 _ (tab_lit w 4 1 1 ([false].map bC) #[.bool false] rfl rfl (bools_one _) (by decide) _ rfl) (by decide)
  rw [lit_one] at C0
  unfold filterV at C0
  have HC0 := Lib.hid C0
  have HB0 := Lib.hid bl
  have HFA : Hid (∀ (W : World) (a' : Option Addr) (c' : Nat), Tab W a' s c' 1 ((List.replicate s false).map bC) → Below w.heap.size w W → _) := Lib.hid (fun W a' c' h hb => fill_any s k a' a s c' nl cap (List.replicate s false) LL W h (hT1.below hb) hE)
  have HFB : Hid (∀ (W : World) (a' : Option Addr) (c' : Nat), Tab W a' s c' 1 ((List.replicate s false).map bC) → Below w.heap.size w W → _) := Lib.hid (fun W a' c' h hb => fill_any s k a' b s c' nm cap1 (List.replicate s false) MM W h (hT2.below hb) hE)
  rw [hTA] at HFA
  rw [hTB] at HFB
  have HFC : Hid (∀ (W : World) (a' : Option Addr) (c' : Nat) (q : Option Addr) (n c : Nat), Tab W a' s c' 1 ((List.replicate s false).map bC) → Tab W q n c 1 ((LL ++ MM).map iC) → Calls Try.prog 31 #[.agg #[.int .i64 s, .int .i64 k, .slice a' s c'], .slice q n c] W fun e w' => ∃ a' c', e = .returned (.tuple #[.agg #[.int .i64 s, .int .i64 k, .slice a' s c'], .bool true]) ∧ Tab w' a' s c' 1 ((putB (List.replicate s false) (allP s k (LL ++ MM))).map bC) ∧ Below W.heap.size W w') := Lib.hid (fun W a' c' q n c h h2 => by
    have h3 := fill_any s k a' q s c' n c (List.replicate s false) (LL ++ MM) W h h2 hE
    rw [List.take_of_length_le (by rw [List.length_append]; omega)] at h3
    exact h3)
  have HFD : Hid (∀ (W : World) (a0 : Option Addr) (c' : Nat) (q : Option Addr) (n c : Nat), Tab W a0 s c' 1 ((putB (List.replicate s false) (allP s k MM)).map bC) → Tab W q n c 1 ((LL ++ LL).map iC) → Calls Try.prog 31 #[.agg #[.int .i64 s, .int .i64 k, .slice a0 s c'], .slice q n c] W fun e w' => ∃ a' c', e = .returned (.tuple #[.agg #[.int .i64 s, .int .i64 k, .slice a' s c'], .bool true]) ∧ Tab w' a' s c' 1 ((putB (List.replicate s false) (allP s k (LL ++ MM))).map bC) ∧ Below W.heap.size W w' ∧ (a' = a0 ∨ ∃ g, a' = some ⟨g, 0, none⟩ ∧ W.heap.size ≤ g)) := Lib.hid (fun W a0 c' q n c h h2 => by
    have h3 := fill_where s k a0 q s c' n c _ (LL ++ LL) W h h2 hE
    rw [List.take_of_length_le (by rw [List.length_append]; omega), again] at h3
    exact h3)
  have HJ1 := Lib.hid (both (s := s) (k := k) (l := LL) (m := MM))
  have HJ2 := Lib.hid (both2 (s := s) (k := k) (l := LL) (m := MM))
  have hCL : (putB (List.replicate s false) (allP s k (LL ++ MM))).length = s := by rw [putB_len]; simp
  generalize putB (List.replicate s false) (allP s k (LL ++ MM)) = CC at *
  generalize putB (List.replicate s false) (allP s k LL) = AA at *
  generalize putB (List.replicate s false) (allP s k MM) = BB at *
  have HJ3 := Lib.hid (orB_self CC)
  have HCL := Lib.hid hCL
  have HJN := Lib.hid (fun (W : World) (a1 a2 : Option Addr) (c1 c2 : Nat) (B C : List Bool) (h1 : Tab W a1 s c1 1 (B.map bC)) (h2 : Tab W a2 s c2 1 (C.map bC)) => fjoin_ok s k a1 a2 s c1 s c2 B C W h1 h2 hE hE)
  unfold filterV at HJN
  have HSM := Lib.hid (fun (W : World) (a1 a2 : Option Addr) (c1 c2 : Nat) (h1 : Tab W a1 s c1 1 (CC.map bC)) (h2 : Tab W a2 s c2 1 (CC.map bC)) => sameF_any s k s k a1 a2 s c1 s c2 CC CC W h1 h2 true (by simp))
  have HT1 := Lib.hid hT1
  have HT2 := Lib.hid hT2
  have HLAB := Lib.hid (And.intro hlA hlB)
  clear C0 bl hT1 hT2 hTA hTB hlA hlB hE w0 w1 bb0 bb1
  go_enter Try.func8, Try.ntmps8
  go_wp2_with fail
  refine HC0.out.mono ?_
  rintro e v1 ⟨q, rfl, hO1, hb1⟩
  obtain ⟨aq, cq, rfl, hTq⟩ := hO1.tab
  rw [List.length_map, show ([true] : List Bool).length = 1 from rfl] at hTq ⊢
  have hz := newT (S := 1) (K := 1) hTq
  have HB2 := Lib.hid (below_on (below_on HB0.out hb1) hz.2)
  obtain ⟨v2, hv2⟩ : ∃ v, v1.alloc (.cells #[.int .i64 1, .int .i64 1, .slice aq 1 cq] 33) = v := ⟨_, rfl⟩
  rw [hv2] at hz HB2
  obtain ⟨X0, hX0⟩ : ∃ X, v1.heap.size = X := ⟨_, rfl⟩
  rw [hX0] at hz
  have S0 := Lib.hid hz.1
  have HVX := Lib.hid (And.intro hv2 hX0)
  clear hO1 hTq hb1 hz hv2 hX0 HC0 HB0
  go_upto_region 2 with fail
  rw [HVX.out.1, HVX.out.2]
  clear HVX
  have hal : Below v2.heap.size v2 (v2.alloc (.cells #[.bool true] 4)) := (Below.refl _ _).alloc (Nat.le_refl _) _
  have C2 := Lib.hid (equal_bools aq (some ⟨v2.heap.size, 0, none⟩) 1 cq 1 1 [true] [true] (v2.alloc (.cells #[.bool true] 4)) (S0.out.2.below hal) (tab_lit v2 4 1 1 ([true].map bC) #[.bool true] rfl rfl (bools_one _) (by decide) _ rfl) true (by simp))
  have HAL := Lib.hid hal
  clear hal
  obtain ⟨c0, c1, c2⟩ := S0.out.cells
  go_wp2_with fail
  refine C2.out.mono ?_
  rintro e v3 ⟨rfl, hb3⟩
  have HB3 := Lib.hid (below_on HB2.out (below_on HAL.out hb3))
  clear hb3 HAL HB2 C2 c0 c1 c2 S0
  go_upto_region 4 with fail
  have hmin1 := HMIN.out.1
  have hmin2 := HMIN.out.2
  have rU1 := run_upto 23 3 1 Try.underlying23 elem_intK size_intK a len cap nl (by omega)
  have rU2 := run_upto 23 3 1 Try.underlying23 elem_intK size_intK b len1 cap1 nm (by omega)
  go_cut [2, 3] (fun s t wx => s = .slice a nl cap ∧ t = .slice b nm cap1 ∧ Hid (Below v3.heap.size v3 wx))
  case first =>
    go_wp2_with fail
    go_quiet (fail)
    go_wp2_with fail
    all_goals
      go_meet
      case rel => exact ⟨by first | rfl | exact congrArg (fun t => Value.slice a t cap) (by omega), by first | rfl | exact congrArg (fun t => Value.slice b t cap1) (by omega), Lib.hid (below_drewN (Below.refl _ _) _)⟩
  case rest =>
  obtain ⟨rfl, rfl, HBQ⟩ := hcut
  have HB4 := Lib.hid (below_on HB3.out HBQ.out)
  clear rU1 rU2 hmin1 hmin2 HMIN HB3 HBQ
  go_wp2_with fail
  refine (HEm.out _).mono ?_
  rintro e v4 ⟨q4, rfl, hO, hb⟩
  obtain ⟨a4, c4, rfl, hT⟩ := hO.tab
  rw [List.length_map, List.length_replicate] at hT ⊢
  have HB5 := Lib.hid (below_on HB4.out hb)
  have CF := Lib.hid (HFA.out v4 a4 c4 hT HB5.out)
  clear hb hO hT HB4 HFA
  go_wp2_with fail
  refine CF.out.mono ?_
  rintro e v5 ⟨aA, cA, rfl, hT, hb⟩
  have hz := newT (S := s) (K := k) hT
  have HB6 := Lib.hid (below_on (below_on HB5.out hb) hz.2)
  obtain ⟨v6, hv⟩ : ∃ v, v5.alloc (.cells #[.int .i64 s, .int .i64 k, .slice aA s cA] 33) = v := ⟨_, rfl⟩
  rw [hv] at hz HB6
  obtain ⟨XA, hX⟩ : ∃ X, v5.heap.size = X := ⟨_, rfl⟩
  rw [hX] at hz
  have SA := Lib.hid hz.1
  have HVX := Lib.hid (And.intro hv hX)
  clear hz hb hT hv hX CF HB5
  go_upto_region 6 with fail
  rw [HVX.out.1, HVX.out.2]
  clear HVX
  go_wp2_with fail
  refine (HEm.out _).mono ?_
  rintro e v7 ⟨q7, rfl, hO, hb⟩
  obtain ⟨a7, c7, rfl, hT⟩ := hO.tab
  rw [List.length_map, List.length_replicate] at hT ⊢
  have HB7 := Lib.hid (below_on HB6.out hb)
  replace SA := Lib.hid (SA.out.below hb)
  have CF := Lib.hid (HFB.out v7 a7 c7 hT HB7.out)
  clear hb hO hT HB6 HFB
  go_wp2_with fail
  refine CF.out.mono ?_
  rintro e v8 ⟨aB, cB, rfl, hT, hb⟩
  have hz := newT (S := s) (K := k) hT
  have HB9 := Lib.hid (below_on (below_on HB7.out hb) hz.2)
  replace SA := Lib.hid ((SA.out.below hb).below hz.2)
  obtain ⟨v9, hv⟩ : ∃ v, v8.alloc (.cells #[.int .i64 s, .int .i64 k, .slice aB s cB] 33) = v := ⟨_, rfl⟩
  rw [hv] at hz HB9 SA
  obtain ⟨XB, hX⟩ : ∃ X, v8.heap.size = X := ⟨_, rfl⟩
  rw [hX] at hz
  have SB := Lib.hid hz.1
  have HVX := Lib.hid (And.intro hv hX)
  clear hz hb hT hv hX CF HB7
  go_upto_region 7 with fail
  rw [HVX.out.1, HVX.out.2]
  clear HVX
  go_wp2_with fail
  refine (HEm.out _).mono ?_
  rintro e v10 ⟨q10, rfl, hO, hb⟩
  obtain ⟨a10, c10, rfl, hT⟩ := hO.tab
  rw [List.length_map, List.length_replicate] at hT ⊢
  have HB10 := Lib.hid (below_on HB9.out hb)
  replace SA := Lib.hid (SA.out.below hb)
  replace SB := Lib.hid (SB.out.below hb)
  have hlit2 : Tab (v10.alloc (.cells #[.slice a nl cap, .slice b nm cap1] 23)) (some ⟨v10.heap.size, 0, none⟩) 2 2 1 (([⟨a, nl, cap, LL⟩, ⟨b, nm, cap1, MM⟩] : List (Sl Int)).map slC) := tab_lit v10 23 1 2 (([⟨a, nl, cap, LL⟩, ⟨b, nm, cap1, MM⟩] : List (Sl Int)).map slC) #[.slice a nl cap, .slice b nm cap1] rfl rfl (by intro r hr; obtain ⟨y, _, rfl⟩ := List.mem_map.1 hr; rfl) (by decide) _ rfl
  have hbl : Below v10.heap.size v10 (v10.alloc (.cells #[.slice a nl cap, .slice b nm cap1] 23)) := (Below.refl _ _).alloc (Nat.le_refl _) _
  have HB11 := Lib.hid (below_on HB10.out hbl)
  have CC9 := Lib.hid (concat_ints _ 2 2 _ _ hlit2 (by
    intro s hs
    rcases List.mem_cons.1 hs with rfl | hs
    · exact HT1.out.below HB11.out
    · obtain rfl := List.mem_singleton.1 hs
      exact HT2.out.below HB11.out) (by simp; omega))
  replace SA := Lib.hid (SA.out.below hbl)
  replace SB := Lib.hid (SB.out.below hbl)
  have HTE := Lib.hid (hT.below hbl)
  clear hlit2 hbl HB10 hb hO hT HB9
  go_wp2_with fail
  refine CC9.out.mono ?_
  rintro e v11 ⟨qc, rfl, hOc, hbc⟩
  obtain ⟨ac, cc, rfl, hTc⟩ := hOc.tab
  have HB12 := Lib.hid (below_on HB11.out hbc)
  replace SA := Lib.hid (SA.out.below hbc)
  replace SB := Lib.hid (SB.out.below hbc)
  have hfl : (([⟨a, nl, cap, LL⟩, ⟨b, nm, cap1, MM⟩] : List (Sl Int)).flatMap (·.l)) = LL ++ MM := by simp
  rw [hfl] at hTc ⊢
  obtain ⟨nc, hnc⟩ : ∃ n, ((LL ++ MM).map iC).length = n := ⟨_, rfl⟩
  rw [hnc] at hTc ⊢
  clear hnc
  have CF := Lib.hid (HFC.out v11 a10 c10 ac nc cc (HTE.out.below hbc) hTc)
  clear hfl hOc hbc hTc CC9 HB11 HFC HTE
  go_wp2_with fail
  refine CF.out.mono ?_
  rintro e v12 ⟨aC, cC, rfl, hT, hb⟩
  have hz := newT (S := s) (K := k) hT
  have HB13 := Lib.hid (below_on (below_on HB12.out hb) hz.2)
  replace SA := Lib.hid ((SA.out.below hb).below hz.2)
  replace SB := Lib.hid ((SB.out.below hb).below hz.2)
  obtain ⟨v13, hv⟩ : ∃ v, v12.alloc (.cells #[.int .i64 s, .int .i64 k, .slice aC s cC] 33) = v := ⟨_, rfl⟩
  rw [hv] at hz HB13 SA SB
  obtain ⟨XC, hX⟩ : ∃ X, v12.heap.size = X := ⟨_, rfl⟩
  rw [hX] at hz
  have SC := Lib.hid hz.1
  have HVX := Lib.hid (And.intro hv hX)
  clear hz hb hT hv hX CF HB12
  go_upto_region 8 with fail
  rw [HVX.out.1, HVX.out.2]
  clear HVX HEm
  obtain ⟨OO, hOO⟩ : ∃ O, (Obj.cells #[.int .i64 0, .int .i64 0, .slice none 0 0] 33) = O := ⟨_, rfl⟩
  have HCT : Hid (∀ (W : World) (X : Nat), Below v13.heap.size v13 W → W.heap[X]? = some (.cells #[.slice a nl cap, .slice a nl cap] 23 (0, 0)) → Calls Try.prog 30 #[.slice (some ⟨X, 0, none⟩) 2 2] W (RetRows W 3 1 ((LL ++ LL).map iC))) := Lib.hid (by
    intro W X hb hX
    have hbw := below_on HB13.out hb
    have hS : Tab W (some ⟨X, 0, none⟩) 2 2 1 (([⟨a, nl, cap, LL⟩, ⟨a, nl, cap, LL⟩] : List (Sl Int)).map slC) := tab_held hX (by intro r hr; obtain ⟨y, _, rfl⟩ := List.mem_map.1 hr; rfl)
    have h := concat_ints _ 2 2 _ W hS (by
      intro s hs
      rcases List.mem_cons.1 hs with rfl | hs
      · exact HT1.out.below hbw
      · obtain rfl := List.mem_singleton.1 hs
        exact HT1.out.below hbw) (by simp; omega)
    rw [show (([⟨a, nl, cap, LL⟩, ⟨a, nl, cap, LL⟩] : List (Sl Int)).flatMap (·.l)) = LL ++ LL by simp] at h
    exact h)
  have HX1 : Hid (((v13.alloc (.cells #[.int .i64 0, .int .i64 0, .slice none 0 0] 33)).alloc (.cells #[.slice a nl cap, .slice a nl cap] 23)).heap[v13.heap.size]? = some (.cells #[.int .i64 0, .int .i64 0, .slice none 0 0] 33 (0, 0))) := Lib.hid (by
    rw [Below.heap_alloc _ _ _ (by simp)]
    exact (MapKept.heap_alloc v13 _).1)
  have HX2 : Hid (((v13.alloc (.cells #[.slice a nl cap, .slice a nl cap] 23)).alloc (.cells #[.int .i64 0, .int .i64 0, .slice none 0 0] 33)).heap[v13.heap.size + 1]? = some (.cells #[.int .i64 0, .int .i64 0, .slice none 0 0] 33 (0, 0))) := Lib.hid (by
    have h9 := (MapKept.heap_alloc (v13.alloc (.cells #[.slice a nl cap, .slice a nl cap] 23)) (.cells #[.int .i64 0, .int .i64 0, .slice none 0 0] 33)).1
    simpa using h9)
  have HX3 : Hid (((v13.alloc (.cells #[.int .i64 0, .int .i64 0, .slice none 0 0] 33)).alloc (.cells #[.slice a nl cap, .slice a nl cap] 23)).heap[v13.heap.size + 1]? = some (.cells #[.slice a nl cap, .slice a nl cap] 23 (0, 0))) := Lib.hid (by
    have h9 := (MapKept.heap_alloc (v13.alloc (.cells #[.int .i64 0, .int .i64 0, .slice none 0 0] 33)) (.cells #[.slice a nl cap, .slice a nl cap] 23)).1
    simpa using h9)
  have HX4 : Hid (((v13.alloc (.cells #[.slice a nl cap, .slice a nl cap] 23)).alloc (.cells #[.int .i64 0, .int .i64 0, .slice none 0 0] 33)).heap[v13.heap.size]? = some (.cells #[.slice a nl cap, .slice a nl cap] 23 (0, 0))) := Lib.hid (by
    rw [Below.heap_alloc _ _ _ (by simp)]
    exact (MapKept.heap_alloc v13 _).1)
  have HX5 : Hid ((v13.alloc (.cells #[.slice a nl cap, .slice a nl cap] 23)).heap[v13.heap.size]? = some (.cells #[.slice a nl cap, .slice a nl cap] 23 (0, 0))) := Lib.hid (MapKept.heap_alloc v13 _).1
  obtain ⟨QQ, hQQ⟩ : ∃ Q, (LL ++ LL).map iC = Q := ⟨_, rfl⟩
  rw [hQQ] at HCT HFD
  clear hQQ hOO
  obtain ⟨c0, c1, c2⟩ := SB.out.cells
  have hXB : XB < v13.heap.size := (Array.getElem?_eq_some_iff.1 SB.out.1).1
  have hAB : ∀ ad, aB = some ad → ad.block < v13.heap.size := by
    intro ad had
    obtain ⟨bb, oo, hbo, hlt, _⟩ := SB.out.2.hspot (by omega)
    rw [hbo, Option.some.injEq] at had
    subst had
    exact hlt
  have hne0 : XB ≠ v13.heap.size := by omega
  have hne1 : XB ≠ v13.heap.size + 1 := by omega
  obtain ⟨cd0, cd1, cd2⟩ := (SB.out.below (Below.refl v13.heap.size v13).drew).cells
  obtain ⟨kad0, kad1, kad2⟩ := (SB.out.below ((Below.refl v13.heap.size v13).alloc (Nat.le_refl _) (.cells #[.slice a nl cap, .slice a nl cap] 23)).drew).cells
  obtain ⟨kbd0, kbd1, kbd2⟩ := (SB.out.below ((Below.refl v13.heap.size v13).alloc (Nat.le_refl _) (.cells #[.int .i64 0, .int .i64 0, .slice none 0 0] 33)).drew).cells
  obtain ⟨kcd0, kcd1, kcd2⟩ := (SB.out.below (((Below.refl v13.heap.size v13).alloc (Nat.le_refl _) (.cells #[.slice a nl cap, .slice a nl cap] 23)).alloc (by simp) (.cells #[.int .i64 0, .int .i64 0, .slice none 0 0] 33)).drew).cells
  obtain ⟨kdd0, kdd1, kdd2⟩ := (SB.out.below (((Below.refl v13.heap.size v13).alloc (Nat.le_refl _) (.cells #[.int .i64 0, .int .i64 0, .slice none 0 0] 33)).alloc (by simp) (.cells #[.slice a nl cap, .slice a nl cap] 23)).drew).cells
  obtain ⟨ka0, ka1, ka2⟩ := (SB.out.below ((Below.refl v13.heap.size v13).alloc (Nat.le_refl _) (.cells #[.slice a nl cap, .slice a nl cap] 23))).cells
  obtain ⟨kb0, kb1, kb2⟩ := (SB.out.below ((Below.refl v13.heap.size v13).alloc (Nat.le_refl _) (.cells #[.int .i64 0, .int .i64 0, .slice none 0 0] 33))).cells
  obtain ⟨kc0, kc1, kc2⟩ := (SB.out.below (((Below.refl v13.heap.size v13).alloc (Nat.le_refl _) (.cells #[.slice a nl cap, .slice a nl cap] 23)).alloc (by simp) (.cells #[.int .i64 0, .int .i64 0, .slice none 0 0] 33))).cells
  obtain ⟨kd0, kd1, kd2⟩ := (SB.out.below (((Below.refl v13.heap.size v13).alloc (Nat.le_refl _) (.cells #[.int .i64 0, .int .i64 0, .slice none 0 0] 33)).alloc (by simp) (.cells #[.slice a nl cap, .slice a nl cap] 23))).cells
  go_cut [17, 18] (fun p e wx => ∃ (XX cD : Nat) (aD : Option Addr), p = .pointer (some ⟨XX, 0, none⟩) ∧ e = .bool true ∧ Hid (SF wx XX s k aD s cD CC) ∧ Hid (Below v13.heap.size v13 wx))
  case first =>
    clear HJ1 HJ2 HJ3 HJN HSM HCL SA SC HT1 HT2 HLAB HB13 hm hle hm1 hle1 hnl1 hnl2 hnm1 hnm2 k1 k2
    go_wp2_with fail
    go_region_held3 (fun W => W.cell? ⟨XB, 0, none⟩ = some (.int .i64 s) ∧ W.cell? ⟨XB, 1, none⟩ = some (.int .i64 k) ∧ W.cell? ⟨XB, 2, none⟩ = some (.slice aB s cB)) (first | with_reducible exact ⟨c0, c1, c2⟩ | with_reducible exact ⟨cd0, cd1, cd2⟩ | with_reducible exact ⟨ka0, ka1, ka2⟩ | with_reducible exact ⟨kad0, kad1, kad2⟩ | with_reducible exact ⟨kb0, kb1, kb2⟩ | with_reducible exact ⟨kbd0, kbd1, kbd2⟩ | with_reducible exact ⟨kc0, kc1, kc2⟩ | with_reducible exact ⟨kcd0, kcd1, kcd2⟩ | with_reducible exact ⟨kd0, kd1, kd2⟩ | with_reducible exact ⟨kdd0, kdd1, kdd2⟩ | with_reducible exact ⟨d0, d1, d2⟩ | with_reducible exact ⟨m0, m1, m2⟩ | with_reducible exact ⟨e0, e1, e2⟩ | with_reducible exact keep3 ⟨e0, e1, e2⟩ hne0 | with_reducible exact keep3 ⟨e0, e1, e2⟩ hne1 | with_reducible exact keep3 ⟨e0, e1, e2⟩ hne5 | go_keep) (first
      | (go_at_call 30; refine Calls.mono (HCT.out _ _ ?_ ?_) ?_; (first | exact (((Below.refl _ _).alloc (Nat.le_refl _) _).alloc (by simp) _).drew | exact ((Below.refl _ _).alloc (Nat.le_refl _) _).drew | exact ((Below.refl _ _).alloc (Nat.le_refl _) _).alloc (by simp) _ | exact (Below.refl _ _).alloc (Nat.le_refl _) _); (first | exact HX3.out | exact HX4.out | exact HX5.out); rintro e w5 ⟨q5, rfl, hO5, hb5⟩; obtain ⟨a5, c5, rfl, hT5⟩ := hO5.tab; obtain ⟨n5, hn5⟩ : ∃ n, QQ.length = n := ⟨_, rfl⟩; rw [hn5] at hT5 ⊢; clear hn5; (first | have hZ5 := Lib.hid (kept_blk3 (drew_below5 hb5) HX1.out) | have hZ5 := Lib.hid (kept_blk3 (drew_below5 hb5) HX2.out) | have hZ5 := Lib.hid (kept_blk3 hb5 HX1.out) | have hZ5 := Lib.hid (kept_blk3 hb5 HX2.out) | skip); have hb5w : Below v13.heap.size v13 w5 := (by first | exact (((Below.refl _ _).alloc (Nat.le_refl _) _).drew).trans (hb5.mono (by simp)) | exact ((((Below.refl _ _).alloc (Nat.le_refl _) _).alloc (by simp) _).drew).trans (hb5.mono (by simp; omega))); obtain ⟨d0, d1, d2⟩ := (SB.out.below hb5w).cells; have hne5 : XB ≠ w5.heap.size := (by have h5 := hb5w.size; omega); obtain ⟨m0, m1, m2⟩ := (SB.out.below (hb5w.alloc hb5w.size (.cells #[.int .i64 0, .int .i64 0, .slice none 0 0] 33))).cells)
      | (go_at_call 31; refine Calls.mono (HFD.out _ _ _ _ _ _ ?_ ?_) ?_; (first | exact SB.out.2.below hb5w | exact (SB.out.2.below hb5w).below ((Below.refl _ _).drew) | exact (SB.out.2.below hb5w).below ((Below.refl _ _).alloc (Nat.le_refl _) _) | exact (SB.out.2.below hb5w).below ((Below.refl _ _).drew.alloc (Nat.le_refl _) _)); (first | exact hT5 | exact hT5.below ((Below.refl _ _).alloc (Nat.le_refl _) _) | exact hT5.below ((Below.refl _ _).drew) | exact hT5.below ((Below.refl _ _).drew.alloc (Nat.le_refl _) _)); rintro e w6 ⟨a6, c6, rfl, hT6, hb6, hw6⟩; have hof6 := off_box hAB hw6; have hbw : Below v13.heap.size v13 w6 := (by first | exact below_on hb5w hb6 | exact below_on hb5w (drew_below5 hb6) | exact below_on hb5w (((Below.refl _ _).alloc (Nat.le_refl _) _).trans (hb6.mono (by simp))) | exact below_on hb5w (((Below.refl _ _).drew.alloc (Nat.le_refl _) _).trans (hb6.mono (by simp)))); obtain ⟨e0, e1, e2⟩ := (SB.out.below hbw).cells; (first | (have hZ6 := Lib.hid (kept_blk3 hb6 (MapKept.heap_alloc w5 (.cells #[.int .i64 0, .int .i64 0, .slice none 0 0] 33)).1); obtain ⟨⟨p0, p1, p2⟩, p3, p4, p5⟩ := three_cells hZ6.out) | (have hZ6 := Lib.hid (kept_blk3 hb6 hZ5.out); obtain ⟨⟨p0, p1, p2⟩, p3, p4, p5⟩ := three_cells hZ6.out) | skip)))
    all_goals
      go_wp2_with fail
      have hs5 := hb5.size
      have hs6 := hb6.size
      simp at hs5 hs6
      go_meet
      case rel =>
        first
        | exact ⟨w6.heap.size, c6, a6, rfl, rfl, Lib.hid (newT hT6).1, Lib.hid (hbw.alloc hbw.size _)⟩
        | exact ⟨v13.heap.size, c6, a6, rfl, rfl, Lib.hid ⟨three_set hZ6.out, tab3 hT6 (hof6 _ (Nat.le_refl _) (by (try simp); omega)) _ _ _⟩, Lib.hid (bel3 hbw (Nat.le_refl _) _ _ _)⟩
        | exact ⟨v13.heap.size + 1, c6, a6, rfl, rfl, Lib.hid ⟨three_set hZ6.out, tab3 hT6 (hof6 _ (Nat.le_succ _) (by (try simp); omega)) _ _ _⟩, Lib.hid (bel3 hbw (Nat.le_succ _) _ _ _)⟩
        | exact ⟨w5.heap.size, c6, a6, rfl, rfl, Lib.hid ⟨three_set hZ6.out, tab3 hT6 (hof6 _ hb5w.size (by simp)) _ _ _⟩, Lib.hid (bel3 hbw hb5w.size _ _ _)⟩
  case rest =>
  obtain ⟨XD, cD, aD, rfl, rfl, SD, HBD⟩ := hcut
  clear HX1 HX2 HX3 HX4 HX5 HCT HFD ka0 ka1 ka2 kb0 kb1 kb2 kc0 kc1 kc2 kd0 kd1 kd2 c0 c1 c2 hAB cd0 cd1 cd2 kad0 kad1 kad2 kbd0 kbd1 kbd2 kcd0 kcd1 kcd2 kdd0 kdd1 kdd2 hne0 hne1
  have HBW := Lib.hid (below_on HB13.out HBD.out)
  replace SA := Lib.hid (SA.out.below HBD.out)
  replace SB := Lib.hid (SB.out.below HBD.out)
  replace SC := Lib.hid (SC.out.below HBD.out)
  obtain ⟨wq, hwq⟩ : ∃ wq, wq = wc := ⟨_, rfl⟩
  subst hwq
  clear HBD HB13
  obtain ⟨ca0, ca1, ca2⟩ := SA.out.cells
  obtain ⟨cb0, cb1, cb2⟩ := SB.out.cells
  have CJ := HJN.out wq aA aB cA cB AA BB SA.out.2 SB.out.2
  rw [HJ1.out] at CJ
  replace CJ := Lib.hid CJ
  go_wp2_with fail
  clear ca0 ca1 ca2 cb0 cb1 cb2
  refine CJ.out.mono ?_
  rintro e uE ⟨qE, rfl, hO, hb⟩
  obtain ⟨aE, cE, rfl, hT⟩ := hO.tab
  rw [List.length_map, HCL.out] at hT ⊢
  have hz := newT (S := s) (K := k) hT
  have v15B := Lib.hid (below_on (below_on HBW.out hb) hz.2)
  replace SA := Lib.hid ((SA.out.below hb).below hz.2)
  replace SB := Lib.hid ((SB.out.below hb).below hz.2)
  replace SC := Lib.hid ((SC.out.below hb).below hz.2)
  replace SD := Lib.hid ((SD.out.below hb).below hz.2)
  obtain ⟨v15, hv⟩ : ∃ v, uE.alloc (.cells #[.int .i64 s, .int .i64 k, .slice aE s cE] 33) = v := ⟨_, rfl⟩
  rw [hv] at hz v15B SA SB SC SD
  obtain ⟨XE, hX⟩ : ∃ X, uE.heap.size = X := ⟨_, rfl⟩
  rw [hX] at hz
  have SE := Lib.hid hz.1
  have HVX := Lib.hid (And.intro hv hX)
  clear hz hb hO hT hv hX CJ
  go_upto_region 10 with fail
  rw [HVX.out.1, HVX.out.2]
  clear HVX
  obtain ⟨ca0, ca1, ca2⟩ := SB.out.cells
  obtain ⟨cb0, cb1, cb2⟩ := SA.out.cells
  have CJ := HJN.out v15 aB aA cB cA BB AA SB.out.2 SA.out.2
  rw [HJ2.out] at CJ
  replace CJ := Lib.hid CJ
  go_wp2_with fail
  clear ca0 ca1 ca2 cb0 cb1 cb2
  refine CJ.out.mono ?_
  rintro e uF ⟨qF, rfl, hO, hb⟩
  obtain ⟨aF, cF, rfl, hT⟩ := hO.tab
  rw [List.length_map, HCL.out] at hT ⊢
  have hz := newT (S := s) (K := k) hT
  have v17B := Lib.hid (below_on (below_on v15B.out hb) hz.2)
  replace SC := Lib.hid ((SC.out.below hb).below hz.2)
  replace SD := Lib.hid ((SD.out.below hb).below hz.2)
  replace SE := Lib.hid ((SE.out.below hb).below hz.2)
  obtain ⟨v17, hv⟩ : ∃ v, uF.alloc (.cells #[.int .i64 s, .int .i64 k, .slice aF s cF] 33) = v := ⟨_, rfl⟩
  rw [hv] at hz v17B SC SD SE
  obtain ⟨XF, hX⟩ : ∃ X, uF.heap.size = X := ⟨_, rfl⟩
  rw [hX] at hz
  have SF := Lib.hid hz.1
  have HVX := Lib.hid (And.intro hv hX)
  clear hz hb hO hT hv hX CJ
  go_upto_region 11 with fail
  rw [HVX.out.1, HVX.out.2]
  clear HVX
  obtain ⟨ca0, ca1, ca2⟩ := SE.out.cells
  have CJ := HJN.out v17 aE aE cE cE CC CC SE.out.2 SE.out.2
  rw [HJ3.out] at CJ
  replace CJ := Lib.hid CJ
  go_wp2_with fail
  clear ca0 ca1 ca2
  refine CJ.out.mono ?_
  rintro e uG ⟨qG, rfl, hO, hb⟩
  obtain ⟨aG, cG, rfl, hT⟩ := hO.tab
  rw [List.length_map, HCL.out] at hT ⊢
  have hz := newT (S := s) (K := k) hT
  have v19B := Lib.hid (below_on (below_on v17B.out hb) hz.2)
  replace SC := Lib.hid ((SC.out.below hb).below hz.2)
  replace SD := Lib.hid ((SD.out.below hb).below hz.2)
  replace SE := Lib.hid ((SE.out.below hb).below hz.2)
  replace SF := Lib.hid ((SF.out.below hb).below hz.2)
  obtain ⟨v19, hv⟩ : ∃ v, uG.alloc (.cells #[.int .i64 s, .int .i64 k, .slice aG s cG] 33) = v := ⟨_, rfl⟩
  rw [hv] at hz v19B SC SD SE SF
  obtain ⟨XG, hX⟩ : ∃ X, uG.heap.size = X := ⟨_, rfl⟩
  rw [hX] at hz
  have SG := Lib.hid hz.1
  have HVX := Lib.hid (And.intro hv hX)
  clear hz hb hO hT hv hX CJ
  go_upto_region 12 with fail
  rw [HVX.out.1, HVX.out.2]
  clear HVX
  obtain ⟨x0, x1, x2⟩ := SE.out.cells
  obtain ⟨y0, y1, y2⟩ := SC.out.cells
  have CE := Lib.hid (HSM.out v19 aE aC cE cC SE.out.2 SC.out.2)
  go_wp2_with fail
  clear x0 x1 x2 y0 y1 y2
  refine CE.out.mono ?_
  rintro e z0 ⟨rfl, hb⟩
  have Z0B := Lib.hid (below_on v19B.out hb)
  replace SC := Lib.hid (SC.out.below hb)
  replace SF := Lib.hid (SF.out.below hb)
  replace SG := Lib.hid (SG.out.below hb)
  replace SD := Lib.hid (SD.out.below hb)
  clear hb CE
  obtain ⟨x0, x1, x2⟩ := SF.out.cells
  obtain ⟨y0, y1, y2⟩ := SC.out.cells
  have CE := Lib.hid (HSM.out z0 aF aC cF cC SF.out.2 SC.out.2)
  go_wp2_with fail
  clear x0 x1 x2 y0 y1 y2
  refine CE.out.mono ?_
  rintro e z1 ⟨rfl, hb⟩
  have Z1B := Lib.hid (below_on Z0B.out hb)
  replace SC := Lib.hid (SC.out.below hb)
  replace SG := Lib.hid (SG.out.below hb)
  replace SD := Lib.hid (SD.out.below hb)
  clear hb CE
  obtain ⟨x0, x1, x2⟩ := SG.out.cells
  obtain ⟨y0, y1, y2⟩ := SC.out.cells
  have CE := Lib.hid (HSM.out z1 aG aC cG cC SG.out.2 SC.out.2)
  go_wp2_with fail
  clear x0 x1 x2 y0 y1 y2
  refine CE.out.mono ?_
  rintro e z2 ⟨rfl, hb⟩
  have Z2B := Lib.hid (below_on Z1B.out hb)
  replace SC := Lib.hid (SC.out.below hb)
  replace SD := Lib.hid (SD.out.below hb)
  clear hb CE
  obtain ⟨x0, x1, x2⟩ := SD.out.cells
  obtain ⟨y0, y1, y2⟩ := SC.out.cells
  have CE := Lib.hid (HSM.out z2 aD aC cD cC SD.out.2 SC.out.2)
  go_wp2_with fail
  clear x0 x1 x2 y0 y1 y2
  refine CE.out.mono ?_
  rintro e z3 ⟨rfl, hb⟩
  have Z3B := Lib.hid (below_on Z2B.out hb)
  clear hb CE
  go_wp2
  go_ret
  exact ⟨rfl, Z3B.out⟩

set_option maxRecDepth 100000 in
theorem lifted (os : Os) (started : os.Started) (H : Type) (enc : TypeId × Value → H) :
    ReturnsInHanded {} Try.checked os 8 .any (Rows.bloomJoinsSpec.pre6 enc Try.prog Try.f8 Rows.bloomJoinsRow.domain false) (Rows.bloomJoinsSpec.post enc Try.prog Try.f8 false true false false) := by
  refine returnsInHanded_of_change_sized (C := Try.checked) own started (by kernel_rfl) Try.func8
    (ChangeSpec.witness6 (enc := enc) (C := Try.checked) false ⟨#[], #[.int .i64 0, .int .i64 0, .slice none 0 0, .slice none 0 0], []⟩ 8 (by kernel_rfl) (by kernel_rfl) (by kernel_rfl) (by kernel_rfl)) ?_
  intro W base args ds gs before hval0 hW hcnd hsz0 _
  have hval : ∀ (j : Nat) t v, Try.f8.params[j]? = some t → args[j]? = some v → Value.okWide Try.prog W .any base t v := hval0
  have hW' := hW
  obtain ⟨p, q, hA0, hV, rfl, hfz, hnd⟩ := hW
  have hA : DataW.TrodAll enc Try.prog W 0 (fun _ => true) true Try.f8.params.toList args.toList ds p := hA0
  have hsz : (DataW.weightsEach Try.prog (Try.f8.params.toList ++ Rows.bloomJoinsSpec.plain.varTypes Try.prog) (ds ++ gs)).all (· ≤ reachBytes) = true := hsz0
  rw [Try.params8] at hA hval hsz
  obtain ⟨v0, vs0, d0, ds0, p0, q0, hargs, rfl, rfl, h0, r0⟩ := trodAll_cons hA
  obtain ⟨v1, vs1, d1, ds1, p1, q1, rfl, rfl, rfl, h1, r1⟩ := trodAll_cons r0
  obtain ⟨v2, vs2, d2, ds2, p2, q2, rfl, rfl, rfl, h2, r2⟩ := trodAll_cons r1
  obtain ⟨v3, vs3, d3, ds3, p3, q3, rfl, rfl, rfl, h3, r3⟩ := trodAll_cons r2
  obtain ⟨rfl, rfl, rfl⟩ := trodAll_nil r3
  obtain rfl : args = #[v0, v1, v2, v3] := by cases args; simp_all
  obtain ⟨rfl, rfl⟩ := trodVars_none hV
  have k0 := h0
  have L0 := light_of hsz (j := 0) (t := 3) (d := d0) rfl rfl
  have lt0 : ∀ x ∈ p0, x.block < W.heap.size := by obtain ⟨m, hm⟩ := k0; exact DataW.trod_lt m _ _ _ hm
  obtain ⟨x0, rfl, rfl, rfl, w0⟩ := open_int Try.underlying3 (hval 0 3 v0 rfl rfl) h0
  have k1 := h1
  have L1 := light_of hsz (j := 1) (t := 3) (d := d1) rfl rfl
  have lt1 : ∀ x ∈ p1, x.block < W.heap.size := by obtain ⟨m, hm⟩ := k1; exact DataW.trod_lt m _ _ _ hm
  obtain ⟨x1, rfl, rfl, rfl, w1⟩ := open_int Try.underlying3 (hval 1 3 v1 rfl rfl) h1
  have k2 := h2
  have L2 := light_of hsz (j := 2) (t := 23) (d := d2) rfl rfl
  have lt2 : ∀ x ∈ p2, x.block < W.heap.size := by obtain ⟨m, hm⟩ := k2; exact DataW.trod_lt m _ _ _ hm
  obtain ⟨a2, len2, cap2, rfl⟩ := okWide_slice Try.underlying23 (hval 2 23 v2 rfl rfl)
  obtain ⟨n2, f2⟩ := trod_slice_of Try.underlying23 h2
  have F2 := And.intro f2 L2
  obtain ⟨x2, e2, t2, b2, o2⟩ := el_slice (w := W) (k := 1) iC wfI (by decide) Try.underlying23 (by kernel_rfl) (el_int Try.underlying3) (B := 8) (by kernel_rfl) _ _ _ F2.1 F2.2
  simp only [slC, List.cons.injEq, Value.slice.injEq, and_true] at e2
  obtain ⟨rfl, rfl, rfl⟩ := e2
  have k3 := h3
  have L3 := light_of hsz (j := 3) (t := 23) (d := d3) rfl rfl
  have lt3 : ∀ x ∈ p3, x.block < W.heap.size := by obtain ⟨m, hm⟩ := k3; exact DataW.trod_lt m _ _ _ hm
  obtain ⟨a3, len3, cap3, rfl⟩ := okWide_slice Try.underlying23 (hval 3 23 v3 rfl rfl)
  obtain ⟨n3, f3⟩ := trod_slice_of Try.underlying23 h3
  have F3 := And.intro f3 L3
  obtain ⟨x3, e3, t3, b3, o3⟩ := el_slice (w := W) (k := 1) iC wfI (by decide) Try.underlying23 (by kernel_rfl) (el_int Try.underlying3) (B := 8) (by kernel_rfl) _ _ _ F3.1 F3.2
  simp only [slC, List.cons.injEq, Value.slice.injEq, and_true] at e3
  obtain ⟨rfl, rfl, rfl⟩ := e3
  clear hA0 hval0
  refine (walk x0 x1 x2 x3 W w0 w1 t2 b2 o2 t3 b3 o3).mono fun e W' ⟨he, hg⟩ => ?_
  subst he
  exact ⟨_, rfl, _, _, _, [], _, [], hW', trodAll_mk1 (shut_bool Try.underlying4 _), (trodAll_cons_mk (Below.trod laidOut (by kernel_rfl) (of_decide_eq_true (by kernel_rfl)) k0 hg lt0) (trodAll_cons_mk (Below.trod laidOut (by kernel_rfl) (of_decide_eq_true (by kernel_rfl)) k1 hg lt1) (trodAll_cons_mk (Below.trod laidOut (by kernel_rfl) (of_decide_eq_true (by kernel_rfl)) k2 hg lt2) (trodAll_cons_mk (Below.trod laidOut (by kernel_rfl) (of_decide_eq_true (by kernel_rfl)) k3 hg lt3) trodAll_mk0)))), rfl, hg.frame _, fun h => by cases h⟩

theorem over : Rows.bloomJoinsRow.holds Try.pinned (OpenSpec.ofChange Rows.bloomJoinsSpec) :=
  OpenClaim.holds_of_wide 8 Try.f8 rfl rfl rfl rfl rfl rfl rfl ⟨rfl, rfl, rfl, rfl, rfl⟩ rfl rfl rfl rfl rfl (by kernel_rfl) Try.func8 (by kernel_rfl)
    (of_decide_eq_true (by kernel_rfl)) (by unfold Func.isWrapper; first | (rw [if_pos (by decide +kernel)]; kernel_rfl) | (rw [if_neg (by decide +kernel)]; exact ⟨rfl, rfl⟩))
    (fun os started H enc _ => lifted os started H enc)

/-- ████ THE STATEMENT ████ -/
theorem proved : Rows.BloomJoinsSaid :=
  over
#print axioms proved
end Go.Proofs.Ytoijeafhohcbdaa.bloomJoins
