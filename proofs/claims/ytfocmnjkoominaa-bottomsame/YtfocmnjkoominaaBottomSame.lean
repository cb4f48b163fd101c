/-
  'Rows.BottomSameSaid' is proved: order, repetition and grouping of the numbers that come have no effect on what is kept. No condition.
-/
import Derived.Test.YtfocmnjkoominaaRows
import Derived.Test.YtfocmnjkoominaaShapes
import Derived.Test.YtfocmnjkoominaaBottomFill
import Derived.Test.YtfocmnjkoominaaBottomJoin
import Derived.Test.YtfocmnjkoominaaRefSame
import Derived.Test.YtfocmnjkoominaaEqualInts
import Derived.Test.YtfocmnjkoominaaConcatInts
import Derived.Test.YtfocmnjkoominaaWithin
import Derived.Test.YtfocmnjkoominaaDraw
import Derived.Test.YtfocmnjkoominaaLit
import Derived.Test.YtfocmnjkoominaaSubSlice
import Derived.Deep.DeepCutAuto
import Derived.BigQuiet
import Derived.Deep.QuietTactic
import Derived.WalkKit
import Derived.ProofKit
import Derived.OpenShut
import Derived.ShutString
import Derived.ChangeOld
import Derived.Below
namespace Go.Proofs.Ytfocmnjkoominaa.bottomSame
open Go.ChangeShapes Go.WideShapes Go.ChangeAt Go.RowKit
open Go.ChangeMaps (open_string shut_string)
set_option linter.unusedVariables false

theorem own : ownKnob Try.prog.godebug = none := by kernel_rfl
theorem laidOut : laidOutB Try.prog = true := by kernel_rfl

open Least
theorem lit_same : bottomE 1 [5] = 0 ∧ T 1 ([5] ++ [3]) = [3] := by decide +kernel
/-- a sketch in a variable that is written no more -/
def SK (w : World) (X : Nat) (k : Nat) (q : Option Addr) (n c : Nat) (L : List Int) : Prop := w.heap[X]? = some (.cells #[.int .i64 k, .slice q n c] 24 (0, 0)) ∧ Tab w q n c 1 (L.map iC)
theorem SK.below {w w' : World} {X k : Nat} {q : Option Addr} {n c : Nat} {L : List Int} (h : SK w X k q n c L) (hb : Below w.heap.size w w') : SK w' X k q n c L := ⟨kept_blk hb h.1, h.2.below hb⟩
theorem SK.new {w : World} {base k : Nat} {q : Option Addr} {n c : Nat} {L : List Int} (h : Own w base 3 1 (.slice q n c) (L.map iC)) : SK (w.alloc (.cells #[.int .i64 k, .slice q n c] 24)) w.heap.size k q n c L ∧ Below w.heap.size w (w.alloc (.cells #[.int .i64 k, .slice q n c] 24)) :=
  ⟨⟨(MapKept.heap_alloc w _).1, (h.alloc _).tab_of⟩, (Below.refl _ _).alloc (Nat.le_refl _) _⟩
theorem SK.cells {w : World} {X k : Nat} {q : Option Addr} {n c : Nat} {L : List Int} (h : SK w X k q n c L) : w.cell? ⟨X, 0, none⟩ = some (.int .i64 k) ∧ w.cell? ⟨X, 1, none⟩ = some (.slice q n c) := (two_cells h.1).1
theorem tab_held {W : World} {X n : Nat} {cs : Array Value} {R : List (List Value)} {t : TypeId} (hX : W.heap[X]? = some (.cells cs t (0, 0))) (hr : ∀ r ∈ R, r.length = 1) (hc : cs.toList = R.flatten := by rfl) (hn : R.length = n := by rfl) (hm : n ≤ maxLen := by decide) : Tab W (some ⟨X, 0, none⟩) n n 1 R := by
  refine ⟨hn, Nat.le_refl _, hm, fun h => (by cases h), fun _ => ⟨X, 0, rfl, (Array.getElem?_eq_some_iff.1 hX).1, fun i r hri j u hu => ?_⟩⟩
  have h := flatten_get hr hri hu
  rw [← hc] at h
  rw [Nat.zero_add]
  exact cell_blk hX (by rw [← Array.getElem?_toList]; exact h)
theorem take_all {L : List Int} {n : Nat} (h : n ≤ 100) : (L.take n).take 200 = L.take n := List.take_of_length_le (by rw [List.length_take]; omega)
theorem turned {k t : Nat} {a b : List Int} : T k (drawsL (b ++ (a.drop t ++ a.take t))) = T k (drawsL a ++ drawsL b) := by
  rw [draws_append, draws_append]
  refine T_congr k (fun y => ?_)
  have h : y ∈ drawsL a ↔ y ∈ drawsL (a.drop t) ∨ y ∈ drawsL (a.take t) := by
    rw [← List.mem_append, ← draws_append]
    unfold drawsL
    simp only [List.mem_map]
    constructor
    · rintro ⟨x, hx, e⟩
      exact ⟨x, by rw [← List.take_append_drop t a] at hx; rw [List.mem_append] at hx ⊢; exact hx.symm, e⟩
    · rintro ⟨x, hx, e⟩
      exact ⟨x, by rw [List.mem_append] at hx; rcases hx with hx | hx; exact List.mem_of_mem_drop hx; exact List.mem_of_mem_take hx, e⟩
  rw [List.mem_append, List.mem_append, List.mem_append, h]
  constructor
  · rintro (h | h | h)
    · exact Or.inr h
    · exact Or.inl (Or.inl h)
    · exact Or.inl (Or.inr h)
  · rintro ((h | h) | h)
    · exact Or.inr (Or.inl h)
    · exact Or.inr (Or.inr h)
    · exact Or.inl h
theorem again {k : Nat} {a b : List Int} : T k (T k (a ++ b) ++ T k a) = T k (a ++ b) := by
  rw [T_both]
  refine T_congr k (fun y => ?_)
  rw [List.mem_append, List.mem_append]
  constructor
  · rintro (h | h)
    · exact h
    · exact Or.inl h
  · exact Or.inl

set_option maxRecDepth 100000 in
set_option maxHeartbeats 2000000 in
theorem walk (x0 : Int) (x1 : Sl Int) (x2 : Sl Int) (x3 : Int) (w : World) (w0 : (Lit.int .i64 x0).wf = true) (t1 : Tab w x1.a x1.len x1.cap 1 (x1.l.map iC)) (b1 : x1.len * 8 ≤ 140737488351232) (o1 : ∀ z ∈ x1.l, wfI z) (t2 : Tab w x2.a x2.len x2.cap 1 (x2.l.map iC)) (b2 : x2.len * 8 ≤ 140737488351232) (o2 : ∀ z ∈ x2.l, wfI z) (w3 : (Lit.int .i64 x3).wf = true) :
    Calls Try.prog 5 #[.int .i64 x0, .slice x1.a x1.len x1.cap, .slice x2.a x2.len x2.cap, .int .i64 x3] w fun e w' => e = .returned (.bool true) ∧ Below w.heap.size w w' := by
  obtain ⟨a, len, cap, L⟩ := x1
  obtain ⟨b, len1, cap1, M⟩ := x2
  have hm : cap ≤ 9223372036854775807 := by have h := t1.hmax; unfold maxLen at h; simpa using h
  have hle : len ≤ cap := t1.hle
  have hm1 : cap1 ≤ 9223372036854775807 := by have h := t2.hmax; unfold maxLen at h; simpa using h
  have hle1 : len1 ≤ cap1 := t2.hle
  obtain ⟨nl, hnl⟩ : ∃ n, min len 100 = n := ⟨_, rfl⟩
  obtain ⟨nm, hnm⟩ : ∃ n, min len1 100 = n := ⟨_, rfl⟩
  have hnl1 : nl ≤ len := by omega
  have hnl2 : nl ≤ 100 := by omega
  have hnm1 : nm ≤ len1 := by omega
  have hnm2 : nm ≤ 100 := by omega
  have hmin1 : min (len : Int) 100 = (nl : Int) := by omega
  have hmin2 : min (len1 : Int) 100 = (nm : Int) := by omega
  have HMIN := Lib.hid (And.intro hmin1 hmin2)
  have hl : L.length = len := by have h := t1.hlen; rw [List.length_map] at h; exact h
  have hl1 : M.length = len1 := by have h := t2.hlen; rw [List.length_map] at h; exact h
  have hT1 : Tab w a nl cap 1 ((L.take nl).map iC) := by have h := t1.upto_ nl hnl1; rw [← List.map_take] at h; exact h
  have hT2 : Tab w b nm cap1 1 ((M.take nm).map iC) := by have h := t2.upto_ nm hnm1; rw [← List.map_take] at h; exact h
  have hw1 : ∀ z ∈ L.take nl, wfI z := fun z hz => o1 z (List.mem_of_mem_take hz)
  have hw2 : ∀ z ∈ M.take nm, wfI z := fun z hz => o2 z (List.mem_of_mem_take hz)
  have hlA : (L.take nl).length = nl := by rw [List.length_take]; omega
  have hlB : (M.take nm).length = nm := by rw [List.length_take]; omega
  have hTA : (L.take nl).take 200 = L.take nl := take_all hnl2
  have hTB : (M.take nm).take 200 = M.take nm := take_all hnm2
  clear hnl hnm hl hl1 hmin1 hmin2 t1 t2 o1 o2
  generalize L.take nl = LL at *
  generalize M.take nm = MM at *
  have b0 : Below w.heap.size w (w.alloc (.cells #[.int .i64 5] 3)) := (Below.refl _ _).alloc (Nat.le_refl _) _
  have C0 := bput_ok 1 (some ⟨w.heap.size, 0, none⟩) 1 1 [5] 3 _ (tab_lit w 3 1 1 ([(5 : Int)].map iC) #[.int .i64 5] rfl rfl (rows_of iC_len _) (by decide) _ rfl) lit_same.1 (by decide) (by decide)
  rw [lit_same.2] at C0
  unfold bottomV at C0
  have HC0 := Lib.hid C0
  have HB0 := Lib.hid b0
  have d0 := withI_bd x0 40 (by omega)
  have HW0 := Lib.hid (fun W => within_int x0 40 W (wf_i64 w0) (by omega) (by omega))
  generalize withI x0 40 = K0 at *
  obtain ⟨k, hk⟩ := Int.eq_ofNat_of_zero_le (show 0 ≤ 1 + K0 by omega)
  have k1 : 1 ≤ k := by omega
  have k2 : k ≤ 40 := by omega
  have hK0 := d0.1
  have hK1 := d0.2
  have HK := Lib.hid hk
  have d1 := withI_bd x3 ((nl : Int) + 1) (by omega)
  have HW1 := Lib.hid (fun W => within_int x3 ((nl : Int) + 1) W (wf_i64 w3) (by omega) (by omega))
  generalize withI x3 ((nl : Int) + 1) = K1 at *
  obtain ⟨tt, rfl⟩ := Int.eq_ofNat_of_zero_le d1.1
  have htt : tt ≤ nl := by omega
  have HFA := fun W (hb : Below w.heap.size w W) => filled_any k a nl cap LL W (hT1.below hb) hw1 k1 k2
  have HFB := fun W (hb : Below w.heap.size w W) => filled_any k b nm cap1 MM W (hT2.below hb) hw2 k1 k2
  rw [hTA] at HFA
  rw [hTB] at HFB
  have HFA := Lib.hid HFA
  have HFB := Lib.hid HFB
  have HFC : Hid (∀ (W : World) (q : Option Addr) (n c : Nat) (hT : Tab W q n c 1 ((LL ++ MM).map iC)), Calls Try.prog 27 #[.int .i64 k, .slice q n c] W fun e w' => ∃ v, e = .returned (.tuple #[.agg #[.int .i64 k, v], .bool true]) ∧ Own w' W.heap.size 3 1 v ((T k (drawsL LL ++ drawsL MM)).map iC) ∧ Below W.heap.size W w') := Lib.hid (fun W q n c hT => by
    have h := filled_any k q n c (LL ++ MM) W hT (fun z hz => by rcases List.mem_append.1 hz with h | h; exact hw1 z h; exact hw2 z h) k1 k2
    rw [List.take_of_length_le (by rw [List.length_append]; omega), draws_append] at h
    exact h)
  have HFD : Hid (∀ (W : World) (q : Option Addr) (n c : Nat) (hT : Tab W q n c 1 ((MM ++ (LL.drop tt ++ LL.take tt)).map iC)), Calls Try.prog 27 #[.int .i64 k, .slice q n c] W fun e w' => ∃ v, e = .returned (.tuple #[.agg #[.int .i64 k, v], .bool true]) ∧ Own w' W.heap.size 3 1 v ((T k (drawsL LL ++ drawsL MM)).map iC) ∧ Below W.heap.size W w') := Lib.hid (fun W q n c hT => by
    have h := filled_any k q n c (MM ++ (LL.drop tt ++ LL.take tt)) W hT (fun z hz => by rcases List.mem_append.1 hz with h | h; exact hw2 z h; rcases List.mem_append.1 h with h | h; exact hw1 z (List.mem_of_mem_drop h); exact hw1 z (List.mem_of_mem_take h)) k1 k2
    rw [List.take_of_length_le (by rw [List.length_append, List.length_append, List.length_drop, List.length_take]; omega), turned] at h
    exact h)
  have HT1 := Lib.hid hT1
  have HT2 := Lib.hid hT2
  have HLA := Lib.hid (And.intro hlA hlB)
  have HGA : Hid (bottomE k (T k (drawsL LL)) = 0) := Lib.hid (T_good k1 k2 draws_bd)
  have HGB : Hid (bottomE k (T k (drawsL MM)) = 0) := Lib.hid (T_good k1 k2 draws_bd)
  have HGC : Hid (bottomE k (T k (drawsL LL ++ drawsL MM)) = 0) := Lib.hid (T_good k1 k2 (fun y hy => by rw [← draws_append] at hy; exact draws_bd y hy))
  have HJ1 := Lib.hid (T_both k (drawsL LL) (drawsL MM))
  have HJ2 : Hid (T k (T k (drawsL MM) ++ T k (drawsL LL)) = T k (drawsL LL ++ drawsL MM)) := Lib.hid (by rw [T_both, T_comm])
  have HJ3 := Lib.hid (again (k := k) (a := drawsL LL) (b := drawsL MM))
  generalize T k (drawsL LL ++ drawsL MM) = CC at *
  generalize T k (drawsL LL) = AA at *
  generalize T k (drawsL MM) = BB at *
  clear C0 b0 d0 d1 hk w0 w3 hT1 hT2 hw1 hw2 hTA hTB hlA hlB
  go_enter Try.func5, Try.ntmps5
  go_wp2_with fail
  refine HC0.out.mono ?_
  rintro e v1 ⟨q, rfl, hO1, hb1⟩
  obtain ⟨aq, cq, rfl, hTq⟩ := hO1.tab
  rw [List.length_map, show ([3] : List Int).length = 1 from rfl] at hTq ⊢
  have hba : Below v1.heap.size v1 (v1.alloc (.cells #[.int .i64 1, .slice aq 1 cq] 24)) := (Below.refl _ _).alloc (Nat.le_refl _) _
  obtain ⟨⟨c0, c1⟩, _, _⟩ := two_cells (MapKept.heap_alloc v1 (.cells #[.int .i64 1, .slice aq 1 cq] 24)).1
  have hT2 := hTq.below hba
  have HB1 := Lib.hid (below_on (below_on HB0.out hb1) hba)
  obtain ⟨v2, hv2⟩ : ∃ v2, v1.alloc (.cells #[.int .i64 1, .slice aq 1 cq] 24) = v2 := ⟨_, rfl⟩
  rw [hv2] at c0 c1 hT2 HB1
  have hal : Below v2.heap.size v2 (v2.alloc (.cells #[.int .i64 3] 3)) := (Below.refl _ _).alloc (Nat.le_refl _) _
  have C2 := Lib.hid (equal_ints aq (some ⟨v2.heap.size, 0, none⟩) _ cq 1 1 [3] [3] (v2.alloc (.cells #[.int .i64 3] 3)) (hT2.below hal) (tab_lit v2 3 1 1 ([(3 : Int)].map iC) #[.int .i64 3] rfl rfl (rows_of iC_len _) (by decide) _ rfl) true (by simp))
  have HAL := Lib.hid hal
  obtain ⟨X, hX⟩ : ∃ X, v1.heap.size = X := ⟨_, rfl⟩
  rw [hX] at c0 c1
  clear hO1 hTq hb1 hba hT2 hal HC0 HB0
  go_upto_region 2 with fail
  try rw [hv2]
  try rw [hX]
  clear hv2 hX
  go_wp2_with fail
  refine C2.out.mono ?_
  rintro e v3 ⟨rfl, hb3⟩
  have HB3 := Lib.hid (below_on HB1.out (below_on HAL.out hb3))
  clear hb3 HAL HB1 C2 c0 c1
  go_wp2_with fail
  refine (HW0.out _).mono ?_
  rintro e v4 ⟨rfl, hv4⟩
  rw [← hv4]
  clear hv4 HW0
  go_upto_region 5 with fail
  rw [HK.out]
  have hmin1 := HMIN.out.1
  have hmin2 := HMIN.out.2
  have rU1 := run_upto 22 3 1 Try.underlying22 elem_intB size_intB a len cap nl (by omega)
  have rU2 := run_upto 22 3 1 Try.underlying22 elem_intB size_intB b len1 cap1 nm (by omega)
  go_cut [1, 2] (fun s t wx => s = .slice a nl cap ∧ t = .slice b nm cap1 ∧ Hid (Below v3.heap.size v3 wx))
  case first =>
    go_wp2_with fail
    go_quiet (fail)
    go_wp2_with fail
    go_meet
    case rel => exact ⟨rfl, rfl, Lib.hid (below_drewN (Below.refl _ _) _)⟩
  case rest =>
  obtain ⟨rfl, rfl, HBQ⟩ := hcut
  have HB4 := Lib.hid (below_on HB3.out HBQ.out)
  clear rU1 rU2 hmin1 hmin2 HMIN HB3 HBQ
  go_wp2_with fail
  refine (HW1.out _).mono ?_
  rintro e v4 ⟨rfl, hv4⟩
  rw [← hv4]
  clear hv4 HW1
  go_wp2_with fail
  refine (HFA.out _ HB4.out).mono ?_
  rintro e v5 ⟨qv6, rfl, hO, hb⟩
  obtain ⟨aA, cA, rfl, _⟩ := hO.tab
  rw [List.length_map] at hO ⊢
  obtain ⟨nA, hnA⟩ : ∃ n, AA.length = n := ⟨_, rfl⟩
  rw [hnA] at hO ⊢
  have hz := SK.new (k := k) hO
  have HBn := below_on (below_on HB4.out hb) hz.2
  obtain ⟨v6, hv⟩ : ∃ v, v5.alloc (.cells #[.int .i64 k, .slice aA nA cA] 24) = v := ⟨_, rfl⟩
  rw [hv] at hz HBn
  obtain ⟨XA, hX⟩ : ∃ X, v5.heap.size = X := ⟨_, rfl⟩
  rw [hX] at hz
  have SA := Lib.hid hz.1
  have HB_v6 := Lib.hid HBn
  clear hz HBn hb hO hnA
  go_upto_region 8 with fail
  try rw [hv]
  try rw [hX]
  clear hv hX
  clear HFA
  go_wp2_with fail
  refine (HFB.out _ HB_v6.out).mono ?_
  rintro e v7 ⟨qv8, rfl, hO, hb⟩
  obtain ⟨aB, cB, rfl, _⟩ := hO.tab
  rw [List.length_map] at hO ⊢
  obtain ⟨nB, hnB⟩ : ∃ n, BB.length = n := ⟨_, rfl⟩
  rw [hnB] at hO ⊢
  have hz := SK.new (k := k) hO
  have HBn := below_on (below_on HB_v6.out hb) hz.2
  have SA := Lib.hid ((SA.out.below hb).below hz.2)
  obtain ⟨v8, hv⟩ : ∃ v, v7.alloc (.cells #[.int .i64 k, .slice aB nB cB] 24) = v := ⟨_, rfl⟩
  rw [hv] at hz HBn
  rw [hv] at SA
  obtain ⟨XB, hX⟩ : ∃ X, v7.heap.size = X := ⟨_, rfl⟩
  rw [hX] at hz
  have SB := Lib.hid hz.1
  have HB_v8 := Lib.hid HBn
  clear hz HBn hb hO hnB
  go_upto_region 9 with fail
  try rw [hv]
  try rw [hX]
  clear hv hX
  clear HFB HB4 HB_v6
  have hlit2 : Tab (v8.alloc (.cells #[.slice a nl cap, .slice b nm cap1] 22)) (some ⟨v8.heap.size, 0, none⟩) 2 2 1 (([⟨a, nl, cap, LL⟩, ⟨b, nm, cap1, MM⟩] : List (Sl Int)).map slC) := tab_lit v8 22 1 2 (([⟨a, nl, cap, LL⟩, ⟨b, nm, cap1, MM⟩] : List (Sl Int)).map slC) #[.slice a nl cap, .slice b nm cap1] rfl rfl (by intro r hr; obtain ⟨y, _, rfl⟩ := List.mem_map.1 hr; rfl) (by decide) _ rfl
  have hbl : Below v8.heap.size v8 (v8.alloc (.cells #[.slice a nl cap, .slice b nm cap1] 22)) := (Below.refl _ _).alloc (Nat.le_refl _) _
  have HB9 := Lib.hid (below_on HB_v8.out hbl)
  have CC9 := Lib.hid (concat_ints _ 2 2 _ _ hlit2 (by
    intro s hs
    rcases List.mem_cons.1 hs with rfl | hs
    · exact HT1.out.below HB9.out
    · obtain rfl := List.mem_singleton.1 hs
      exact HT2.out.below HB9.out) (by simp; omega))
  have SA := Lib.hid (SA.out.below hbl)
  have SB := Lib.hid (SB.out.below hbl)
  clear hlit2 hbl HB_v8
  go_wp2_with fail
  refine CC9.out.mono ?_
  rintro e v9 ⟨qc, rfl, hOc, hbc⟩
  obtain ⟨ac, cc, rfl, hTc⟩ := hOc.tab
  have HBc := Lib.hid (below_on HB9.out hbc)
  have SA := Lib.hid (SA.out.below hbc)
  have SB := Lib.hid (SB.out.below hbc)
  have hfl : (([⟨a, nl, cap, LL⟩, ⟨b, nm, cap1, MM⟩] : List (Sl Int)).flatMap (·.l)) = LL ++ MM := by simp
  rw [hfl] at hTc ⊢
  obtain ⟨nc, hnc⟩ : ∃ n, ((LL ++ MM).map iC).length = n := ⟨_, rfl⟩
  rw [hnc] at hTc ⊢
  clear hnc
  have CF9 := Lib.hid (HFC.out v9 ac nc cc hTc)
  clear hfl hOc hbc hTc CC9 HB9 HFC
  go_wp2_with fail
  refine (CF9.out).mono ?_
  rintro e v10 ⟨qv11, rfl, hO, hb⟩
  obtain ⟨aC, cC, rfl, _⟩ := hO.tab
  rw [List.length_map] at hO ⊢
  obtain ⟨nC, hnC⟩ : ∃ n, CC.length = n := ⟨_, rfl⟩
  rw [hnC] at hO ⊢
  have hz := SK.new (k := k) hO
  have HBn := below_on (below_on HBc.out hb) hz.2
  have SA := Lib.hid ((SA.out.below hb).below hz.2)
  have SB := Lib.hid ((SB.out.below hb).below hz.2)
  obtain ⟨v11, hv⟩ : ∃ v, v10.alloc (.cells #[.int .i64 k, .slice aC nC cC] 24) = v := ⟨_, rfl⟩
  rw [hv] at hz HBn
  rw [hv] at SA
  rw [hv] at SB
  obtain ⟨XC, hX⟩ : ∃ X, v10.heap.size = X := ⟨_, rfl⟩
  rw [hX] at hz
  have SC := Lib.hid hz.1
  have HB_v11 := Lib.hid HBn
  clear hz HBn hb hO hnC
  go_upto_region 10 with fail
  try rw [hv]
  try rw [hX]
  clear hv hX
  clear CF9 HBc
  have hle0 : nl ≤ cap := HT1.out.hle
  have rU1 := run_from 22 3 1 Try.underlying22 elem_intB size_intB a nl cap tt htt
  have rU2 := run_upto 22 3 1 Try.underlying22 elem_intB size_intB a nl cap tt (by omega)
  have HT3 := Lib.hid (HT1.out.from_ tt htt)
  have HT4 := Lib.hid (HT1.out.upto_ tt htt)
  have HCT : Hid (∀ (W : World) (X : Nat), Below v11.heap.size v11 W → W.heap[X]? = some (.cells #[.slice b nm cap1, .slice (fromA a cap tt 1) (nl - tt) (cap - tt), .slice a tt cap] 22 (0, 0)) → Calls Try.prog 16 #[.slice (some ⟨X, 0, none⟩) 3 3] W (RetRows W 3 1 ((MM ++ (LL.drop tt ++ LL.take tt)).map iC))) := Lib.hid (by
    intro W X hb hX
    have hbw := below_on HB_v11.out hb
    have hS : Tab W (some ⟨X, 0, none⟩) 3 3 1 (([⟨b, nm, cap1, MM⟩, ⟨fromA a cap tt 1, nl - tt, cap - tt, LL.drop tt⟩, ⟨a, tt, cap, LL.take tt⟩] : List (Sl Int)).map slC) := tab_held hX (by intro r hr; obtain ⟨y, _, rfl⟩ := List.mem_map.1 hr; rfl)
    have h := concat_ints _ 3 3 _ W hS (by
      intro s hs
      rcases List.mem_cons.1 hs with rfl | hs
      · exact HT2.out.below hbw
      rcases List.mem_cons.1 hs with rfl | hs
      · have := HT3.out.below hbw; rw [← List.map_drop] at this; exact this
      · obtain rfl := List.mem_singleton.1 hs
        have := HT4.out.below hbw; rw [← List.map_take] at this; exact this) (by simp; omega)
    rw [show (([⟨b, nm, cap1, MM⟩, ⟨fromA a cap tt 1, nl - tt, cap - tt, LL.drop tt⟩, ⟨a, tt, cap, LL.take tt⟩] : List (Sl Int)).flatMap (·.l)) = MM ++ (LL.drop tt ++ LL.take tt) by simp] at h
    exact h)
  have HBN := Lib.hid HB_v11.out
  have HX1 : Hid (((v11.alloc (.cells #[.int .i64 0, .slice none 0 0] 24)).alloc (.cells #[.slice b nm cap1, .slice (fromA a cap tt 1) (nl - tt) (cap - tt), .slice a tt cap] 22)).heap[v11.heap.size]? = some (.cells #[.int .i64 0, .slice none 0 0] 24 (0, 0))) := Lib.hid (by
    rw [Below.heap_alloc _ _ _ (by simp)]
    exact (MapKept.heap_alloc v11 _).1)
  have HX2 : Hid (((v11.alloc (.cells #[.slice b nm cap1, .slice (fromA a cap tt 1) (nl - tt) (cap - tt), .slice a tt cap] 22)).alloc (.cells #[.int .i64 0, .slice none 0 0] 24)).heap[v11.heap.size + 1]? = some (.cells #[.int .i64 0, .slice none 0 0] 24 (0, 0))) := Lib.hid (by
    have h9 := (MapKept.heap_alloc (v11.alloc (.cells #[.slice b nm cap1, .slice (fromA a cap tt 1) (nl - tt) (cap - tt), .slice a tt cap] 22)) (.cells #[.int .i64 0, .slice none 0 0] 24)).1
    simpa using h9)
  have HX3 : Hid (((v11.alloc (.cells #[.int .i64 0, .slice none 0 0] 24)).alloc (.cells #[.slice b nm cap1, .slice (fromA a cap tt 1) (nl - tt) (cap - tt), .slice a tt cap] 22)).heap[v11.heap.size + 1]? = some (.cells #[.slice b nm cap1, .slice (fromA a cap tt 1) (nl - tt) (cap - tt), .slice a tt cap] 22 (0, 0))) := Lib.hid (by
    have h9 := (MapKept.heap_alloc (v11.alloc (.cells #[.int .i64 0, .slice none 0 0] 24)) (.cells #[.slice b nm cap1, .slice (fromA a cap tt 1) (nl - tt) (cap - tt), .slice a tt cap] 22)).1
    simpa using h9)
  have HX4 : Hid (((v11.alloc (.cells #[.slice b nm cap1, .slice (fromA a cap tt 1) (nl - tt) (cap - tt), .slice a tt cap] 22)).alloc (.cells #[.int .i64 0, .slice none 0 0] 24)).heap[v11.heap.size]? = some (.cells #[.slice b nm cap1, .slice (fromA a cap tt 1) (nl - tt) (cap - tt), .slice a tt cap] 22 (0, 0))) := Lib.hid (by
    rw [Below.heap_alloc _ _ _ (by simp)]
    exact (MapKept.heap_alloc v11 _).1)
  have HX5 : Hid ((v11.alloc (.cells #[.slice b nm cap1, .slice (fromA a cap tt 1) (nl - tt) (cap - tt), .slice a tt cap] 22)).heap[v11.heap.size]? = some (.cells #[.slice b nm cap1, .slice (fromA a cap tt 1) (nl - tt) (cap - tt), .slice a tt cap] 22 (0, 0))) := Lib.hid (MapKept.heap_alloc v11 _).1
  obtain ⟨QQ, hQQ⟩ : ∃ Q, (MM ++ (LL.drop tt ++ LL.take tt)).map iC = Q := ⟨_, rfl⟩
  have HFD := HFD.out
  rw [hQQ] at HFD
  rw [hQQ] at HCT
  have HFD := Lib.hid HFD
  clear hQQ HT3 HT4 hle0
  go_cut [17, 18] (fun p e wx => ∃ (XX nD cD : Nat) (aD : Option Addr), p = .pointer (some ⟨XX, 0, none⟩) ∧ e = .bool true ∧ Hid (SK wx XX k aD nD cD CC) ∧ Hid (Below v11.heap.size v11 wx))
  case first =>
    go_wp2_with fail
    go_region_with (first | (go_at_call 16; refine Calls.mono (HCT.out _ _ ?_ ?_) ?_; (first | exact (((Below.refl _ _).alloc (Nat.le_refl _) _).alloc (by simp) _).drew | exact ((Below.refl _ _).alloc (Nat.le_refl _) _).drew | exact ((Below.refl _ _).alloc (Nat.le_refl _) _).alloc (by simp) _ | exact (Below.refl _ _).alloc (Nat.le_refl _) _); (first | exact HX3.out | exact HX4.out | exact HX5.out); rintro e w5 ⟨q5, rfl, hO5, hb5⟩; obtain ⟨a5, c5, rfl, hT5⟩ := hO5.tab; obtain ⟨n5, hn5⟩ : ∃ n, QQ.length = n := ⟨_, rfl⟩; rw [hn5] at hT5 ⊢; clear hn5; (first | have hZ5 := Lib.hid (kept_blk (drew_below hb5) HX1.out) | have hZ5 := Lib.hid (kept_blk (drew_below hb5) HX2.out) | have hZ5 := Lib.hid (kept_blk hb5 HX1.out) | have hZ5 := Lib.hid (kept_blk hb5 HX2.out) | skip)) | (go_at_call 27; refine Calls.mono (HFD.out _ _ _ _ ?_) ?_; (first | exact hT5 | exact hT5.below ((Below.refl _ _).alloc (Nat.le_refl _) _) | exact hT5.below ((Below.refl _ _).drew) | exact hT5.below ((Below.refl _ _).drew.alloc (Nat.le_refl _) _)); rintro e w6 ⟨q6, rfl, hO6, hb6⟩; obtain ⟨a6, c6, rfl, _⟩ := hO6.tab; rw [List.length_map] at hO6 ⊢; (first | (have hZ6 := Lib.hid (kept_blk hb6 (MapKept.heap_alloc w5 (.cells #[.int .i64 0, .slice none 0 0] 24)).1); obtain ⟨⟨p0, p1⟩, p2, p3⟩ := two_cells hZ6.out) | (have hZ6 := Lib.hid (kept_blk hb6 hZ5.out); obtain ⟨⟨p0, p1⟩, p2, p3⟩ := two_cells hZ6.out) | skip)))
    all_goals
      go_wp2_with fail
      have hs5 := hb5.size
      simp at hs5
      have hb5w : Below v11.heap.size v11 w5 := by
        first
        | exact (((Below.refl _ _).alloc (Nat.le_refl _) _).drew).trans (hb5.mono (by simp))
        | exact ((((Below.refl _ _).alloc (Nat.le_refl _) _).alloc (by simp) _).drew).trans (hb5.mono (by simp; omega))
      have hbw : Below v11.heap.size v11 w6 := by
        first
        | exact below_on hb5w hb6
        | exact below_on hb5w (((Below.refl _ _).alloc (Nat.le_refl _) _).trans (hb6.mono (by simp)))
      go_meet
      case rel =>
        first
        | exact ⟨w6.heap.size, _, _, _, rfl, rfl, Lib.hid ⟨(MapKept.heap_alloc w6 _).1, (hO6.alloc _).tab_of⟩, Lib.hid (hbw.alloc hbw.size _)⟩
        | exact ⟨v11.heap.size, _, _, _, rfl, rfl, Lib.hid ⟨two_set hZ6.out, ((hO6.setCell (a := ⟨v11.heap.size, 0, none⟩) (by simp; omega) _).setCell (a := ⟨v11.heap.size, 1, none⟩) (by simp; omega) _).tab_of⟩, Lib.hid ((hbw.setCell (p := ⟨v11.heap.size, 0, none⟩) (Nat.le_refl _) _).setCell (p := ⟨v11.heap.size, 1, none⟩) (Nat.le_refl _) _)⟩
        | exact ⟨v11.heap.size + 1, _, _, _, rfl, rfl, Lib.hid ⟨two_set hZ6.out, ((hO6.setCell (a := ⟨v11.heap.size + 1, 0, none⟩) (by simp; omega) _).setCell (a := ⟨v11.heap.size + 1, 1, none⟩) (by simp; omega) _).tab_of⟩, Lib.hid ((hbw.setCell (p := ⟨v11.heap.size + 1, 0, none⟩) (Nat.le_succ _) _).setCell (p := ⟨v11.heap.size + 1, 1, none⟩) (Nat.le_succ _) _)⟩
        | exact ⟨w5.heap.size, _, _, _, rfl, rfl, Lib.hid ⟨two_set hZ6.out, ((hO6.setCell (a := ⟨w5.heap.size, 0, none⟩) (by simp) _).setCell (a := ⟨w5.heap.size, 1, none⟩) (by simp) _).tab_of⟩, Lib.hid ((hbw.setCell (p := ⟨w5.heap.size, 0, none⟩) hb5w.size _).setCell (p := ⟨w5.heap.size, 1, none⟩) hb5w.size _)⟩
  case rest =>
  obtain ⟨XD, nD, cD, aD, rfl, rfl, SD, HBD⟩ := hcut
  clear rU1 rU2 HX1 HX2 HX3 HX4 HX5 HCT HFD HBN
  have HBW := Lib.hid (below_on HB_v11.out HBD.out)
  have SA := Lib.hid (SA.out.below HBD.out)
  have SB := Lib.hid (SB.out.below HBD.out)
  have SC := Lib.hid (SC.out.below HBD.out)
  obtain ⟨wq, hwq⟩ : ∃ wq, wq = wc := ⟨_, rfl⟩
  subst hwq
  clear HBD HB_v11
  obtain ⟨ca0, ca1⟩ := SA.out.cells
  obtain ⟨cb0, cb1⟩ := SB.out.cells
  have CJ := bjoin_ok k aA aB nA cA nB cB AA BB wq SA.out.2 SB.out.2 HGA.out HGB.out
  rw [HJ1.out] at CJ
  unfold bottomV at CJ
  have CJ := Lib.hid CJ
  go_wp2_with fail
  clear ca0 ca1 cb0 cb1
  refine CJ.out.mono ?_
  rintro e v12 ⟨qv13, rfl, hO, hb⟩
  obtain ⟨aE, cE, rfl, _⟩ := hO.tab
  rw [List.length_map] at hO ⊢
  obtain ⟨nE, hnE⟩ : ∃ n, CC.length = n := ⟨_, rfl⟩
  rw [hnE] at hO ⊢
  have hz := SK.new (k := k) hO
  have HBn := below_on (below_on HBW.out hb) hz.2
  have SA := Lib.hid ((SA.out.below hb).below hz.2)
  have SB := Lib.hid ((SB.out.below hb).below hz.2)
  have SC := Lib.hid ((SC.out.below hb).below hz.2)
  have SD := Lib.hid ((SD.out.below hb).below hz.2)
  obtain ⟨v13, hv⟩ : ∃ v, v12.alloc (.cells #[.int .i64 k, .slice aE nE cE] 24) = v := ⟨_, rfl⟩
  rw [hv] at hz HBn
  rw [hv] at SA
  rw [hv] at SB
  rw [hv] at SC
  rw [hv] at SD
  obtain ⟨XE, hX⟩ : ∃ X, v12.heap.size = X := ⟨_, rfl⟩
  rw [hX] at hz
  have SE := Lib.hid hz.1
  have HB_v13 := Lib.hid HBn
  clear hz HBn hb hO hnE CJ
  go_upto_region 12 with fail
  try rw [hv]
  try rw [hX]
  clear hv hX
  obtain ⟨ca0, ca1⟩ := SB.out.cells
  obtain ⟨cb0, cb1⟩ := SA.out.cells
  have CJ := bjoin_ok k aB aA nB cB nA cA BB AA v13 SB.out.2 SA.out.2 HGB.out HGA.out
  rw [HJ2.out] at CJ
  unfold bottomV at CJ
  have CJ := Lib.hid CJ
  go_wp2_with fail
  clear ca0 ca1 cb0 cb1
  refine CJ.out.mono ?_
  rintro e v14 ⟨qv15, rfl, hO, hb⟩
  obtain ⟨aF, cF, rfl, _⟩ := hO.tab
  rw [List.length_map] at hO ⊢
  obtain ⟨nF, hnF⟩ : ∃ n, CC.length = n := ⟨_, rfl⟩
  rw [hnF] at hO ⊢
  have hz := SK.new (k := k) hO
  have HBn := below_on (below_on HB_v13.out hb) hz.2
  have SA := Lib.hid ((SA.out.below hb).below hz.2)
  have SB := Lib.hid ((SB.out.below hb).below hz.2)
  have SC := Lib.hid ((SC.out.below hb).below hz.2)
  have SD := Lib.hid ((SD.out.below hb).below hz.2)
  have SE := Lib.hid ((SE.out.below hb).below hz.2)
  obtain ⟨v15, hv⟩ : ∃ v, v14.alloc (.cells #[.int .i64 k, .slice aF nF cF] 24) = v := ⟨_, rfl⟩
  rw [hv] at hz HBn
  rw [hv] at SA
  rw [hv] at SB
  rw [hv] at SC
  rw [hv] at SD
  rw [hv] at SE
  obtain ⟨XF, hX⟩ : ∃ X, v14.heap.size = X := ⟨_, rfl⟩
  rw [hX] at hz
  have SF := Lib.hid hz.1
  have HB_v15 := Lib.hid HBn
  clear hz HBn hb hO hnF CJ
  go_upto_region 13 with fail
  try rw [hv]
  try rw [hX]
  clear hv hX
  obtain ⟨ca0, ca1⟩ := SE.out.cells
  obtain ⟨cb0, cb1⟩ := SA.out.cells
  have CJ := bjoin_ok k aE aA nE cE nA cA CC AA v15 SE.out.2 SA.out.2 HGC.out HGA.out
  rw [HJ3.out] at CJ
  unfold bottomV at CJ
  have CJ := Lib.hid CJ
  go_wp2_with fail
  clear ca0 ca1 cb0 cb1
  refine CJ.out.mono ?_
  rintro e v16 ⟨qv17, rfl, hO, hb⟩
  obtain ⟨aG, cG, rfl, _⟩ := hO.tab
  rw [List.length_map] at hO ⊢
  obtain ⟨nG, hnG⟩ : ∃ n, CC.length = n := ⟨_, rfl⟩
  rw [hnG] at hO ⊢
  have hz := SK.new (k := k) hO
  have HBn := below_on (below_on HB_v15.out hb) hz.2
  have SA := Lib.hid ((SA.out.below hb).below hz.2)
  have SB := Lib.hid ((SB.out.below hb).below hz.2)
  have SC := Lib.hid ((SC.out.below hb).below hz.2)
  have SD := Lib.hid ((SD.out.below hb).below hz.2)
  have SE := Lib.hid ((SE.out.below hb).below hz.2)
  have SF := Lib.hid ((SF.out.below hb).below hz.2)
  obtain ⟨v17, hv⟩ : ∃ v, v16.alloc (.cells #[.int .i64 k, .slice aG nG cG] 24) = v := ⟨_, rfl⟩
  rw [hv] at hz HBn
  rw [hv] at SA
  rw [hv] at SB
  rw [hv] at SC
  rw [hv] at SD
  rw [hv] at SE
  rw [hv] at SF
  obtain ⟨XG, hX⟩ : ∃ X, v16.heap.size = X := ⟨_, rfl⟩
  rw [hX] at hz
  have SG := Lib.hid hz.1
  have HB_v17 := Lib.hid HBn
  clear hz HBn hb hO hnG CJ
  go_upto_region 14 with fail
  try rw [hv]
  try rw [hX]
  clear hv hX
  obtain ⟨x0, x1⟩ := SE.out.cells
  obtain ⟨y0, y1⟩ := SC.out.cells
  have CE := sameB_any k k aE aC nE cE nC cC CC CC v17 SE.out.2 SC.out.2 true (by simp)
  unfold bottomV at CE
  have CE := Lib.hid CE
  go_wp2_with fail
  refine CE.out.mono ?_
  rintro e v18 ⟨rfl, hb⟩
  have HB_v18 := Lib.hid (below_on HB_v17.out hb)
  have SF := Lib.hid (SF.out.below hb)
  have SG := Lib.hid (SG.out.below hb)
  have SD := Lib.hid (SD.out.below hb)
  have SC := Lib.hid (SC.out.below hb)
  clear x0 x1 y0 y1 CE hb
  obtain ⟨x0, x1⟩ := SF.out.cells
  obtain ⟨y0, y1⟩ := SC.out.cells
  have CE := sameB_any k k aF aC nF cF nC cC CC CC v18 SF.out.2 SC.out.2 true (by simp)
  unfold bottomV at CE
  have CE := Lib.hid CE
  go_wp2_with fail
  refine CE.out.mono ?_
  rintro e v19 ⟨rfl, hb⟩
  have HB_v19 := Lib.hid (below_on HB_v18.out hb)
  have SG := Lib.hid (SG.out.below hb)
  have SD := Lib.hid (SD.out.below hb)
  have SC := Lib.hid (SC.out.below hb)
  clear x0 x1 y0 y1 CE hb
  obtain ⟨x0, x1⟩ := SG.out.cells
  obtain ⟨y0, y1⟩ := SC.out.cells
  have CE := sameB_any k k aG aC nG cG nC cC CC CC v19 SG.out.2 SC.out.2 true (by simp)
  unfold bottomV at CE
  have CE := Lib.hid CE
  go_wp2_with fail
  refine CE.out.mono ?_
  rintro e v20 ⟨rfl, hb⟩
  have HB_v20 := Lib.hid (below_on HB_v19.out hb)
  have SD := Lib.hid (SD.out.below hb)
  have SC := Lib.hid (SC.out.below hb)
  clear x0 x1 y0 y1 CE hb
  obtain ⟨x0, x1⟩ := SD.out.cells
  obtain ⟨y0, y1⟩ := SC.out.cells
  have CE := sameB_any k k aD aC nD cD nC cC CC CC v20 SD.out.2 SC.out.2 true (by simp)
  unfold bottomV at CE
  have CE := Lib.hid CE
  go_wp2_with fail
  refine CE.out.mono ?_
  rintro e v21 ⟨rfl, hb⟩
  have HB_v21 := Lib.hid (below_on HB_v20.out hb)
  have SC := Lib.hid (SC.out.below hb)
  clear x0 x1 y0 y1 CE hb
  go_wp2
  go_ret
  exact ⟨rfl, HB_v21.out⟩

set_option maxRecDepth 100000 in
theorem lifted (os : Os) (started : os.Started) (H : Type) (enc : TypeId × Value → H) :
    ReturnsInHanded {} Try.checked os 5 .any (Rows.bottomSameSpec.pre6 enc Try.prog Try.f5 Rows.bottomSameRow.domain false) (Rows.bottomSameSpec.post enc Try.prog Try.f5 false true false false) := by
  refine returnsInHanded_of_change_sized (C := Try.checked) own started (by kernel_rfl) Try.func5
    (ChangeSpec.witness6 (enc := enc) (C := Try.checked) false ⟨#[], #[.int .i64 0, .slice none 0 0, .slice none 0 0, .int .i64 0], []⟩ 8 (by kernel_rfl) (by kernel_rfl) (by kernel_rfl) (by kernel_rfl)) ?_
  intro W base args ds gs before hval0 hW hcnd hsz0 _
  have hval : ∀ (j : Nat) t v, Try.f5.params[j]? = some t → args[j]? = some v → Value.okWide Try.prog W .any base t v := hval0
  have hW' := hW
  obtain ⟨p, q, hA0, hV, rfl, hfz, hnd⟩ := hW
  have hA : DataW.TrodAll enc Try.prog W 0 (fun _ => true) true Try.f5.params.toList args.toList ds p := hA0
  have hsz : (DataW.weightsEach Try.prog (Try.f5.params.toList ++ Rows.bottomSameSpec.plain.varTypes Try.prog) (ds ++ gs)).all (· ≤ reachBytes) = true := hsz0
  rw [Try.params5] at hA hval hsz
  obtain ⟨v0, vs0, d0, ds0, p0, q0, hargs, rfl, rfl, h0, r0⟩ := trodAll_cons hA
  obtain ⟨v1, vs1, d1, ds1, p1, q1, rfl, rfl, rfl, h1, r1⟩ := trodAll_cons r0
  obtain ⟨v2, vs2, d2, ds2, p2, q2, rfl, rfl, rfl, h2, r2⟩ := trodAll_cons r1
  obtain ⟨v3, vs3, d3, ds3, p3, q3, rfl, rfl, rfl, h3, r3⟩ := trodAll_cons r2
  obtain ⟨rfl, rfl, rfl⟩ := trodAll_nil r3
  obtain rfl : args = #[v0, v1, v2, v3] := by cases args; simp_all
  obtain ⟨rfl, rfl⟩ := trodVars_none hV
  have k0 := h0
  have L0 := light_of hsz (j := 0) (t := 3) (d := d0) rfl rfl
  have lt0 : ∀ x ∈ p0, x.block < W.heap.size := by obtain ⟨m, hm⟩ := k0; exact DataW.trod_lt m _ _ _ hm
  obtain ⟨x0, rfl, rfl, rfl, w0⟩ := open_int Try.underlying3 (hval 0 3 v0 rfl rfl) h0
  have k1 := h1
  have L1 := light_of hsz (j := 1) (t := 22) (d := d1) rfl rfl
  have lt1 : ∀ x ∈ p1, x.block < W.heap.size := by obtain ⟨m, hm⟩ := k1; exact DataW.trod_lt m _ _ _ hm
  obtain ⟨a1, len1, cap1, rfl⟩ := okWide_slice Try.underlying22 (hval 1 22 v1 rfl rfl)
  obtain ⟨n1, f1⟩ := trod_slice_of Try.underlying22 h1
  have F1 := And.intro f1 L1
  obtain ⟨x1, e1, t1, b1, o1⟩ := el_slice (w := W) (k := 1) iC wfI (by decide) Try.underlying22 (by kernel_rfl) (el_int Try.underlying3) (B := 8) (by kernel_rfl) _ _ _ F1.1 F1.2
  simp only [slC, List.cons.injEq, Value.slice.injEq, and_true] at e1
  obtain ⟨rfl, rfl, rfl⟩ := e1
  have k2 := h2
  have L2 := light_of hsz (j := 2) (t := 22) (d := d2) rfl rfl
  have lt2 : ∀ x ∈ p2, x.block < W.heap.size := by obtain ⟨m, hm⟩ := k2; exact DataW.trod_lt m _ _ _ hm
  obtain ⟨a2, len2, cap2, rfl⟩ := okWide_slice Try.underlying22 (hval 2 22 v2 rfl rfl)
  obtain ⟨n2, f2⟩ := trod_slice_of Try.underlying22 h2
  have F2 := And.intro f2 L2
  obtain ⟨x2, e2, t2, b2, o2⟩ := el_slice (w := W) (k := 1) iC wfI (by decide) Try.underlying22 (by kernel_rfl) (el_int Try.underlying3) (B := 8) (by kernel_rfl) _ _ _ F2.1 F2.2
  simp only [slC, List.cons.injEq, Value.slice.injEq, and_true] at e2
  obtain ⟨rfl, rfl, rfl⟩ := e2
  have k3 := h3
  have L3 := light_of hsz (j := 3) (t := 3) (d := d3) rfl rfl
  have lt3 : ∀ x ∈ p3, x.block < W.heap.size := by obtain ⟨m, hm⟩ := k3; exact DataW.trod_lt m _ _ _ hm
  obtain ⟨x3, rfl, rfl, rfl, w3⟩ := open_int Try.underlying3 (hval 3 3 v3 rfl rfl) h3
  clear hA0 hval0
  refine (walk x0 x1 x2 x3 W w0 t1 b1 o1 t2 b2 o2 w3).mono fun e W' ⟨he, hg⟩ => ?_
  subst he
  exact ⟨_, rfl, _, _, _, [], _, [], hW', trodAll_mk1 (shut_bool Try.underlying4 _), (trodAll_cons_mk (Below.trod laidOut (by kernel_rfl) (of_decide_eq_true (by kernel_rfl)) k0 hg lt0) (trodAll_cons_mk (Below.trod laidOut (by kernel_rfl) (of_decide_eq_true (by kernel_rfl)) k1 hg lt1) (trodAll_cons_mk (Below.trod laidOut (by kernel_rfl) (of_decide_eq_true (by kernel_rfl)) k2 hg lt2) (trodAll_cons_mk (Below.trod laidOut (by kernel_rfl) (of_decide_eq_true (by kernel_rfl)) k3 hg lt3) trodAll_mk0)))), rfl, hg.frame _, fun h => by cases h⟩

theorem over : Rows.bottomSameRow.holds Try.pinned (OpenSpec.ofChange Rows.bottomSameSpec) :=
  OpenClaim.holds_of_wide 5 Try.f5 rfl rfl rfl rfl rfl rfl rfl ⟨rfl, rfl, rfl, rfl, rfl⟩ rfl rfl rfl rfl rfl (by kernel_rfl) Try.func5 (by kernel_rfl)
    (of_decide_eq_true (by kernel_rfl)) (by unfold Func.isWrapper; first | (rw [if_pos (by decide +kernel)]; kernel_rfl) | (rw [if_neg (by decide +kernel)]; exact ⟨rfl, rfl⟩))
    (fun os started H enc _ => lifted os started H enc)

/-- ████ THE STATEMENT ████ -/
theorem proved : Rows.BottomSameSaid :=
  over
#print axioms proved
end Go.Proofs.Ytfocmnjkoominaa.bottomSame
