/-
  'Rows.TableSaysSaid' is proved: whatever is handed in, Check, Put, Ask and Join answer what the document says. No condition.
-/
import Derived.Test.YtcfejbhoeichnaaRows
import Derived.Test.YtcfejbhoeichnaaShapes
import Derived.Test.YtcfejbhoeichnaaTabTables
import Derived.Test.YtcfejbhoeichnaaTabSame
import Derived.Test.YtcfejbhoeichnaaTabMin
import Derived.Deep.DeepCutAuto
import Derived.WalkKit
import Derived.ProofKit
import Derived.OpenShut
import Derived.ShutString
import Derived.ChangeOld
import Derived.Below
namespace Go.Proofs.Ytcfejbhoeichnaa.tableSays
open Go.ChangeShapes Go.WideShapes Go.ChangeAt Go.RowKit
open Go.ChangeMaps (open_string shut_string)
set_option linter.unusedVariables false

theorem own : ownKnob Try.prog.godebug = none := by kernel_rfl
theorem laidOut : laidOutB Try.prog = true := by kernel_rfl

--BEATS
open Tbl
/-- the four variables that the law boxes, and what they hold; written no more -/
structure Bx (X : Nat) (W : Int) (a : Option Addr) (len cap : Nat) (R : List (List Int)) (V : Int) (b : Option Addr) (len2 cap2 : Nat) (Q : List (List Int)) (x n : Int) (w : World) : Prop where
  t : ST w X W a len cap R
  u : ST w (X + 1) V b len2 cap2 Q
  k : w.heap[X + 2]? = some (.cells #[.int .i64 x] 3 (0, 0))
  n : w.heap[X + 3]? = some (.cells #[.int .i64 n] 3 (0, 0))
section
variable {X : Nat} {W : Int} {a : Option Addr} {len cap : Nat} {R : List (List Int)} {V : Int} {b : Option Addr} {len2 cap2 : Nat} {Q : List (List Int)} {x n : Int} {w w' : World}
theorem Bx.below (h : Bx X W a len cap R V b len2 cap2 Q x n w) (hb : Below w.heap.size w w') : Bx X W a len cap R V b len2 cap2 Q x n w' := ⟨h.t.below hb, h.u.below hb, kept hb h.k, kept hb h.n⟩
theorem Bx.cells (h : Bx X W a len cap R V b len2 cap2 Q x n w) : (w.cell? ⟨X, 0, none⟩ = some (.int .i64 W) ∧ w.cell? ⟨X, 1, none⟩ = some (.slice a len cap)) ∧ (w.cell? ⟨X + 1, 0, none⟩ = some (.int .i64 V) ∧ w.cell? ⟨X + 1, 1, none⟩ = some (.slice b len2 cap2)) ∧ w.cell? ⟨X + 2, 0, none⟩ = some (.int .i64 x) ∧ w.cell? ⟨X + 3, 0, none⟩ = some (.int .i64 n) :=
  ⟨h.t.cells, h.u.cells, cell_blk h.k rfl, cell_blk h.n rfl⟩
theorem Bx.new (w : World) (hT : TTx w anyB a len cap R) (hU : TTx w anyB b len2 cap2 Q) : Bx w.heap.size W a len cap R V b len2 cap2 Q x n ((((w.alloc (.cells #[.int .i64 W, .slice a len cap] 39)).alloc (.cells #[.int .i64 V, .slice b len2 cap2] 39)).alloc (.cells #[.int .i64 x] 3)).alloc (.cells #[.int .i64 n] 3)) ∧
    Below w.heap.size w ((((w.alloc (.cells #[.int .i64 W, .slice a len cap] 39)).alloc (.cells #[.int .i64 V, .slice b len2 cap2] 39)).alloc (.cells #[.int .i64 x] 3)).alloc (.cells #[.int .i64 n] 3)) := by
  have b1 : Below w.heap.size w (w.alloc (.cells #[.int .i64 W, .slice a len cap] 39)) := (Below.refl _ _).alloc (Nat.le_refl _) _
  have k1 := (MapKept.heap_alloc w (.cells #[.int .i64 W, .slice a len cap] 39)).1
  have z1 : (w.alloc (.cells #[.int .i64 W, .slice a len cap] 39)).heap.size = w.heap.size + 1 := by simp
  generalize w.alloc (.cells #[.int .i64 W, .slice a len cap] 39) = w1 at *
  have b2 : Below w1.heap.size w1 (w1.alloc (.cells #[.int .i64 V, .slice b len2 cap2] 39)) := (Below.refl _ _).alloc (Nat.le_refl _) _
  have k2 := (MapKept.heap_alloc w1 (.cells #[.int .i64 V, .slice b len2 cap2] 39)).1
  have z2 : (w1.alloc (.cells #[.int .i64 V, .slice b len2 cap2] 39)).heap.size = w.heap.size + 2 := by simp; omega
  generalize w1.alloc (.cells #[.int .i64 V, .slice b len2 cap2] 39) = w2 at *
  have b3 : Below w2.heap.size w2 (w2.alloc (.cells #[.int .i64 x] 3)) := (Below.refl _ _).alloc (Nat.le_refl _) _
  have k3 := (MapKept.heap_alloc w2 (.cells #[.int .i64 x] 3)).1
  have z3 : (w2.alloc (.cells #[.int .i64 x] 3)).heap.size = w.heap.size + 3 := by simp; omega
  generalize w2.alloc (.cells #[.int .i64 x] 3) = w3 at *
  have b4 : Below w3.heap.size w3 (w3.alloc (.cells #[.int .i64 n] 3)) := (Below.refl _ _).alloc (Nat.le_refl _) _
  have k4 := (MapKept.heap_alloc w3 (.cells #[.int .i64 n] 3)).1
  generalize w3.alloc (.cells #[.int .i64 n] 3) = w4 at *
  rw [z1] at k2
  rw [z2] at k3
  rw [z3] at k4
  have h12 := below_on b1 b2
  have h13 := below_on h12 b3
  have h14 := below_on h13 b4
  exact ⟨⟨⟨kept b4 (kept b3 (kept b2 k1)), hT.below h14⟩, ⟨kept b4 (kept b3 k2), hU.below h14⟩, kept b4 k3, k4⟩, h14⟩
end

set_option maxRecDepth 100000 in
set_option maxHeartbeats 1000000 in
theorem clo1_any (X : Nat) (s : Nat) (a : Option Addr) (len cap : Nat) (R : List (List Int)) (V : Int) (b : Option Addr) (len2 cap2 : Nat) (Q : List (List Int)) (x n : Int) (i k : Nat) (h1 : 1 ≤ s) (h2 : s ≤ 32) (hi : i ≤ 4) (w : World) (h : Bx X s a len cap R V b len2 cap2 Q x n w) :
    Calls Try.prog 26 #[.int .i64 i, .int .i64 k, .pointer (some ⟨X, 0, none⟩), .pointer (some ⟨X + 2, 0, none⟩), .pointer (some ⟨X + 3, 0, none⟩)] w fun e w' => e = .returned (.int .i64 (if (k : Int) = (colN s x i : Nat) then n else 0)) ∧ Below w.heap.size w w' := by
  obtain ⟨⟨c0, c1⟩, _, c4, c5⟩ := h.cells
  have HP := Lib.hid (refPlace_any s x i h1 h2 hi a len cap w)
  have HB := Lib.hid h
  obtain ⟨q, hq⟩ : ∃ q, colN s x i = q := ⟨_, rfl⟩
  rw [hq] at HP ⊢
  clear h hq
  by_cases hk : (k : Int) = (q : Nat)
  · rw [if_pos hk]
    have t : ((k : Int) == ((q : Nat) : Int)) = true := by simpa using hk
    clear hk
    go_enter Try.func26, Try.ntmps26
    go_wp2_with fail
    refine HP.out.mono ?_
    rintro e w1 ⟨rfl, hb⟩
    obtain ⟨_, _, _, d5⟩ := (HB.out.below hb).cells
    go_wp2
    go_ret
    exact ⟨rfl, hb⟩
  · rw [if_neg hk]
    have t : ((k : Int) == ((q : Nat) : Int)) = false := by simpa using hk
    clear hk
    go_enter Try.func26, Try.ntmps26
    go_wp2_with fail
    refine HP.out.mono ?_
    rintro e w1 ⟨rfl, hb⟩
    go_wp2
    go_ret
    exact ⟨rfl, hb⟩
set_option maxRecDepth 100000 in
set_option maxHeartbeats 1000000 in
theorem clo2_any (Y : Nat) (s : Nat) (V : Int) (b : Option Addr) (len2 cap2 : Nat) (Q : List (List Int)) (i k : Nat) (hi : i < len2) (hk : k < s) (hg : GoodT s Q) (w : World) (h : ST w Y V b len2 cap2 Q) :
    Calls Try.prog 27 #[.int .i64 i, .int .i64 k, .pointer (some ⟨Y, 0, none⟩)] w fun e w' => e = .returned (.int .i64 (((Q[i]?).getD []).getD k 0)) ∧ Below w.heap.size w w' := by
  have hl := h.2.len
  have h4 : len2 ≤ 4 := by rw [← hl]; exact hg.n2
  have s2 := hg.s2
  obtain ⟨q, hq⟩ : ∃ q, Q[i]? = some q := ⟨_, List.getElem?_eq_getElem (by omega)⟩
  have hql := hg.len q (List.mem_of_getElem? hq)
  obtain ⟨y, hy⟩ : ∃ y, q[k]? = some y := ⟨_, List.getElem?_eq_getElem (by omega)⟩
  obtain ⟨b1, o1, qa, qn, qc, ha, hbs, c2, hTq, hqn, hqc, hqm⟩ := h.2.row (Below.refl _ _) hq
  obtain ⟨b2, o2, ha2, hbs2, c3⟩ := hTq.one (Below.refl _ _) (map_get hy)
  obtain ⟨c0, c1⟩ := h.cells
  have hkn : k < qn := by omega
  rw [hq, Option.getD_some, List.getD_eq_getElem?_getD, hy, Option.getD_some]
  subst ha ha2
  have hB := Lib.hid h
  clear hq hy hTq h hl hg hql hqn
  go_enter Try.func27, Try.ntmps27
  go_wp2
  go_ret
  exact ⟨rfl, Below.refl _ _⟩
theorem nil_same (w : World) : TTx w anyB none 0 0 [] := TTx.nil _ _
theorem joinE_one {W V : Int} {R Q : List (List Int)} (h : tabE W R ≠ 0) : joinE W R V Q = tabE W R := if_pos h
theorem joinE_two {W V : Int} {R Q : List (List Int)} (h : tabE W R = 0) : joinE W R V Q = if tabE V Q ≠ 0 then tabE V Q else if W ≠ V ∨ R.length ≠ Q.length then 7 else tooE (joinR R Q) := by
  unfold joinE
  rw [if_neg (by rw [h]; simp)]
theorem putE_arg {s : Nat} {R : List (List Int)} {x n : Int} (hg : GoodT s R) (h : outB n = true) : putE s R x n = 1 := by
  unfold putE
  rw [if_neg (by rw [tabE_ok hg]; simp), h, if_pos rfl]

set_option maxRecDepth 100000 in
set_option maxHeartbeats 12000000 in
theorem walk (x0_0 : Int) (x0_1 : Sl (Sl Int)) (x1_0 : Int) (x1_1 : Sl (Sl Int)) (x2 : Int) (x3 : Int) (w : World) (w0_0 : (Lit.int .i64 x0_0).wf = true) (t0_1 : Tab w x0_1.a x0_1.len x0_1.cap 1 (x0_1.l.map slC)) (b0_1 : x0_1.len * 24 ≤ 140737488351232) (o0_1 : ∀ z ∈ x0_1.l, (fun y : Sl Int => Tab w y.a y.len y.cap 1 (y.l.map iC) ∧ y.len * 8 ≤ 140737488351232 ∧ ∀ z ∈ y.l, wfI z) z) (w1_0 : (Lit.int .i64 x1_0).wf = true) (t1_1 : Tab w x1_1.a x1_1.len x1_1.cap 1 (x1_1.l.map slC)) (b1_1 : x1_1.len * 24 ≤ 140737488351232) (o1_1 : ∀ z ∈ x1_1.l, (fun y : Sl Int => Tab w y.a y.len y.cap 1 (y.l.map iC) ∧ y.len * 8 ≤ 140737488351232 ∧ ∀ z ∈ y.l, wfI z) z) (w2 : (Lit.int .i64 x2).wf = true) (w3 : (Lit.int .i64 x3).wf = true) :
    Calls Try.prog 4 #[.agg #[.int .i64 x0_0, .slice x0_1.a x0_1.len x0_1.cap], .agg #[.int .i64 x1_0, .slice x1_1.a x1_1.len x1_1.cap], .int .i64 x2, .int .i64 x3] w fun e w' => e = .returned (.bool true) ∧ Below w.heap.size w w' := by
  obtain ⟨a, len, cap, L⟩ := x0_1
  obtain ⟨b, len2, cap2, L2⟩ := x1_1
  have hT : TTx w anyB a len cap (L.map (fun s => s.l)) := TTx.of t0_1 (fun s hs => (o0_1 s hs).1)
  have hU : TTx w anyB b len2 cap2 (L2.map (fun s => s.l)) := TTx.of t1_1 (fun s hs => (o1_1 s hs).1)
  generalize L.map (fun s => s.l) = R at *
  generalize L2.map (fun s => s.l) = Q at *
  clear t0_1 t1_1 o0_1 o1_1 b0_1 b1_1
  generalize x0_0 = W at *
  generalize x1_0 = V at *
  generalize x2 = x at *
  generalize x3 = n at *
  have hl1 := hT.len
  have hl2 := hU.len
  have hm1 := hT.max
  have hm2 := hU.max
  have HLL := Lib.hid (And.intro hl1 hl2)
  have hbn := Bx.new (W := W) (V := V) (x := x) (n := n) w hT hU
  obtain ⟨v0, hv0⟩ : ∃ v, ((((w.alloc (.cells #[.int .i64 W, .slice a len cap] 39)).alloc (.cells #[.int .i64 V, .slice b len2 cap2] 39)).alloc (.cells #[.int .i64 x] 3)).alloc (.cells #[.int .i64 n] 3)) = v := ⟨_, rfl⟩
  rw [hv0] at hbn
  have BX := Lib.hid hbn.1
  have HB0 := Lib.hid hbn.2
  have HV0 := Lib.hid hv0
  obtain ⟨SP, RP, CP1, CP⟩ := tput_all W x n a len cap R
  obtain ⟨z, CA1, CA⟩ := task_all W x a len cap R
  obtain ⟨SJ, RJ, CJ1, CJ⟩ := tjoin_all W V a b len cap len2 cap2 R Q
  have C4 := fun U (h : TTx U anyB a len cap R) => refRows_any W a len cap R anyB U h
  have C5 := fun U (h : TTx U anyB a len cap R) => tcheck_any W a len cap R anyB U h
  have C6 := Lib.hid (fun U => tcheck_any 0 none 0 0 [] anyB U (nil_same U))
  rw [show tabE 0 [] = 1 from by decide] at C6
  have C7 := fun U (h : TTx U anyB b len2 cap2 Q) => refRows_any V b len2 cap2 Q anyB U h
  obtain ⟨EP, hEP⟩ : ∃ E, putE W R x n = E := ⟨_, rfl⟩
  obtain ⟨E, hE⟩ : ∃ E, tabE W R = E := ⟨_, rfl⟩
  obtain ⟨E2, hE2⟩ : ∃ E, tabE V Q = E := ⟨_, rfl⟩
  obtain ⟨J, hJ⟩ : ∃ E, joinE W R V Q = E := ⟨_, rfl⟩
  have HEE := Lib.hid (And.intro hEP (And.intro hE (And.intro hE2 hJ)))
  rw [hEP] at CP CP1
  rw [hE] at CA CA1 C4 C5
  rw [hE2] at C7
  rw [hJ] at CJ CJ1
  replace C4 := Lib.hid C4
  replace C5 := Lib.hid C5
  replace C7 := Lib.hid C7
  clear hT hU hl1 hl2 hbn hv0 hEP hE hE2 hJ
  go_enter Try.func4, Try.ntmps4
  go_upto_region 1 with fail
  rw [HV0.out]
  obtain ⟨X, hX⟩ : ∃ X, w.heap.size = X := ⟨_, rfl⟩
  have HX := Lib.hid hX
  rw [hX] at BX ⊢
  try rw [show X + 1 + 1 = X + 2 from rfl]
  try rw [show X + 2 + 1 = X + 3 from rfl]
  clear HV0 hX
  obtain ⟨⟨a0, a1⟩, ⟨b0, b1⟩, k0, n0⟩ := BX.out.cells
  go_wp2_with fail
  clear a0 a1 b0 b1 k0 n0
  refine (CP.out anyB _ BX.out.t.2).mono ?_
  rintro e v1 ⟨aP, lP, cP, rfl, htt, hb⟩
  have HLP := Lib.hid htt.len
  have hz := ST.new (W := SP) htt
  have HBn := below_on (below_on HB0.out hb) hz.2
  replace BX := Lib.hid ((BX.out.below hb).below hz.2)
  obtain ⟨v2, hv⟩ : ∃ v, v1.alloc (.cells #[.int .i64 SP, .slice aP lP cP] 39) = v := ⟨_, rfl⟩
  rw [hv] at hz HBn BX
  obtain ⟨XP, hX⟩ : ∃ X, v1.heap.size = X := ⟨_, rfl⟩
  rw [hX] at hz
  have SFP := Lib.hid hz.1
  have HB1 := Lib.hid HBn
  have HVX := Lib.hid (And.intro hv hX)
  clear hz HBn hb htt hv hX CP HB0
  go_upto_region 2 with fail
  rw [HVX.out.1, HVX.out.2]
  clear HVX
  obtain ⟨⟨a0, a1⟩, ⟨b0, b1⟩, k0, n0⟩ := BX.out.cells
  go_wp2_with fail
  clear a0 a1 b0 b1 k0 n0
  refine (CA.out anyB _ BX.out.t.2).mono ?_
  rintro e v3 ⟨rfl, hb⟩
  replace BX := Lib.hid (BX.out.below hb)
  replace SFP := Lib.hid (SFP.out.below hb)
  have HB2 := Lib.hid (below_on HB1.out hb)
  clear hb CA HB1
  obtain ⟨⟨a0, a1⟩, ⟨b0, b1⟩, k0, n0⟩ := BX.out.cells
  go_wp2_with fail
  clear a0 a1 b0 b1 k0 n0
  refine (CJ.out anyB anyB _ BX.out.t.2 BX.out.u.2).mono ?_
  rintro e v4 ⟨aJ, lJ, cJ, rfl, htt, hb⟩
  have HLJ := Lib.hid htt.len
  have hz := ST.new (W := SJ) htt
  have HBn := below_on (below_on HB2.out hb) hz.2
  replace BX := Lib.hid ((BX.out.below hb).below hz.2)
  replace SFP := Lib.hid ((SFP.out.below hb).below hz.2)
  obtain ⟨v5, hv⟩ : ∃ v, v4.alloc (.cells #[.int .i64 SJ, .slice aJ lJ cJ] 39) = v := ⟨_, rfl⟩
  rw [hv] at hz HBn BX SFP
  obtain ⟨XJ, hX⟩ : ∃ X, v4.heap.size = X := ⟨_, rfl⟩
  rw [hX] at hz
  have SFJ := Lib.hid hz.1
  have HB3 := Lib.hid HBn
  have HVX := Lib.hid (And.intro hv hX)
  clear hz HBn hb htt hv hX CJ HB2
  go_upto_region 4 with fail
  rw [HVX.out.1, HVX.out.2]
  clear HVX
  obtain ⟨⟨a0, a1⟩, ⟨b0, b1⟩, k0, n0⟩ := BX.out.cells
  go_wp2_with fail
  clear a0 a1 b0 b1 k0 n0
  refine (C4.out _ BX.out.t.2).mono ?_
  rintro e v6 ⟨rfl, hb⟩
  replace BX := Lib.hid (BX.out.below hb)
  replace SFP := Lib.hid (SFP.out.below hb)
  replace SFJ := Lib.hid (SFJ.out.below hb)
  have HB4 := Lib.hid (below_on HB3.out hb)
  clear hb C4 HB3
  obtain ⟨⟨a0, a1⟩, ⟨b0, b1⟩, k0, n0⟩ := BX.out.cells
  have u1 : (E != E) = false := by simp
  have u2 : (E == E) = true := by simp
  go_wp2_with fail
  clear a0 a1 b0 b1 k0 n0
  refine (C5.out _ BX.out.t.2).mono ?_
  rintro e v7 ⟨rfl, hb⟩
  replace BX := Lib.hid (BX.out.below hb)
  replace SFP := Lib.hid (SFP.out.below hb)
  replace SFJ := Lib.hid (SFJ.out.below hb)
  have HB5 := Lib.hid (below_on HB4.out hb)
  clear hb C5 HB4
  go_wp2_with fail
  refine (C6.out _).mono ?_
  rintro e v8 ⟨rfl, hb⟩
  replace BX := Lib.hid (BX.out.below hb)
  replace SFP := Lib.hid (SFP.out.below hb)
  replace SFJ := Lib.hid (SFJ.out.below hb)
  have HB6 := Lib.hid (below_on HB5.out hb)
  clear hb C6 HB5
  by_cases hE : E ≠ 0
  · have t3 : (E != 0) = true := by simpa using hE
    obtain rfl : EP = E := by
      rw [← HEE.out.1, ← HEE.out.2.1]
      exact if_pos (by rw [HEE.out.2.1]; exact hE)
    obtain rfl : J = EP := by
      rw [← HEE.out.2.2.2, ← HEE.out.2.1]
      exact joinE_one (by rw [HEE.out.2.1]; exact hE)
    obtain ⟨rfl, rfl⟩ : SP = 0 ∧ RP = [] := by
      rcases CP1.out with ⟨_, h1, h2⟩ | ⟨h, _⟩
      · exact ⟨h1, h2⟩
      · exact absurd h hE
    obtain rfl : lP = 0 := by rw [← HLP.out]; rfl
    obtain ⟨rfl, rfl⟩ : SJ = 0 ∧ RJ = [] := by
      rcases CJ1.out with ⟨_, h1, h2⟩ | ⟨h, _⟩
      · exact ⟨h1, h2⟩
      · exact absurd h hE
    obtain rfl : lJ = 0 := by rw [← HLJ.out]; rfl
    obtain rfl : z = 0 := by
      rcases CA1.out with ⟨_, h⟩ | ⟨h, _⟩
      · exact h
      · exact absurd h hE
    have D1 := Lib.hid (fun U (h : TTx U anyB aP 0 cP []) => sameT_any 0 0 aP none 0 cP 0 0 [] [] anyB anyB U h (nil_same U) true (by simp))
    have D2 := Lib.hid (fun U (h : TTx U anyB aJ 0 cJ []) => sameT_any 0 0 aJ none 0 cJ 0 0 [] [] anyB anyB U h (nil_same U) true (by simp))
    obtain ⟨p0, p1⟩ := SFP.out.cells
    clear hE CP1 CJ1 CA1 HEE HLP HLJ C7 HLL
    go_wp2_with fail
    clear p0 p1
    refine (D1.out _ SFP.out.2).mono ?_
    rintro e v9 ⟨rfl, hb⟩
    replace SFJ := Lib.hid (SFJ.out.below hb)
    replace HB6 := Lib.hid (below_on HB6.out hb)
    clear hb D1
    obtain ⟨p0, p1⟩ := SFJ.out.cells
    go_wp2_with fail
    clear p0 p1
    refine (D2.out _ SFJ.out.2).mono ?_
    rintro e v10 ⟨rfl, hb⟩
    replace HB6 := Lib.hid (below_on HB6.out hb)
    clear hb D2
    go_wp2_with fail
    go_ret
    exact ⟨rfl, HB6.out⟩
  obtain rfl : E = 0 := by omega
  clear hE
  obtain ⟨s, rfl, hg⟩ := tabE_zero HEE.out.2.1
  obtain rfl : z = askR s x R := by
    rcases CA1.out with ⟨h, _⟩ | ⟨_, s', hs', _, h⟩
    · exact absurd rfl h
    · obtain rfl : s' = s := by omega
      exact h
  have HG := Lib.hid hg
  have s1 := hg.s1
  have s2 := hg.s2
  have h4 : len ≤ 4 := by rw [← HLL.out.1]; exact hg.n2
  clear hg CA1
  obtain ⟨⟨a0, a1⟩, ⟨b0, b1⟩, k0, n0⟩ := BX.out.cells
  go_wp2_with fail
  clear a0 a1 b0 b1 k0 n0
  go_loopg [16, 85] len (fun g m i wr => ∃ k : Nat, k + g = len ∧ i = .int .i64 k ∧ m = .int .i64 (((R.mapIdx (fun i r => atR s x i r)).take k).foldl min 1000000000000) ∧ Hid (Below v8.heap.size v8 wr))
  case atStart => exact ⟨0, by omega, rfl, rfl, Lib.hid (Below.refl _ _)⟩
  case round =>
    obtain ⟨k, hk0, rfl, rfl, HW⟩ := hrel
    have HJ := Lib.hid hk0
    have hk : k ≤ len := by omega
    clear hk0
    replace BX := Lib.hid (BX.out.below HW.out)
    by_cases hlt : k < len
    · obtain ⟨r, hr⟩ : ∃ r, R[k]? = some r := ⟨_, List.getElem?_eq_getElem (by rw [HLL.out.1]; exact hlt)⟩
      have hrl := HG.out.len r (List.mem_of_getElem? hr)
      obtain ⟨y, hy⟩ := at_some (x := x) (i := k) s1 hrl
      have hN := ask_take (s := s) (x := x) hr
      rw [atR_is hy] at hN
      have HN := Lib.hid hN
      obtain ⟨b3, o3, qa, qn, qc, ha, hbs, c0, hTq, hqn, hqc, hqm⟩ := BX.out.t.2.row (Below.refl _ _) hr
      have hcl := colN_lt (x := x) (i := k) s1
      have HC2 := refPlace_any s x k s1 s2 (by omega) a len cap wr
      obtain ⟨p, hp⟩ : ∃ p, colN s x k = p := ⟨_, rfl⟩
      rw [hp] at HC2 hcl hy
      replace HC2 := Lib.hid HC2
      have hpq : p < qn := by rw [← hqn, hrl]; exact hcl
      have hqn32 : qn ≤ 32 := by rw [← hqn, hrl]; exact s2
      have HTQ := Lib.hid hTq
      have HY := Lib.hid hy
      obtain ⟨⟨a0, a1⟩, ⟨b0, b1⟩, k0, n0⟩ := BX.out.cells
      generalize ((R.mapIdx (fun i r => atR s x i r)).take k).foldl min 1000000000000 = m at *
      subst ha
      clear hr hrl hy hN hTq hqn hp hcl
      go_wp2_with fail
      refine HC2.out.mono ?_
      rintro e w5 ⟨rfl, hb5⟩
      obtain ⟨b4, o4, ha2, hbs2, e0⟩ := HTQ.out.one hb5 (map_get HY.out)
      have HW5 := Lib.hid (below_on HW.out hb5)
      subst ha2
      clear hb5 a0 a1 b0 b1 k0 n0 c0
      go_wp2_with fail
      all_goals
        go_roundg (len - (k + 1))
        case measure => have := HJ.out; omega
        case rel => exact ⟨k + 1, by omega, by go_num, by rw [HN.out]; exact congrArg (Value.int .i64) (by omega), HW5⟩
    · obtain rfl : k = len := by omega
      obtain ⟨m, hm⟩ : ∃ m, ((R.mapIdx (fun i r => atR s x i r)).take k).foldl min 1000000000000 = m := ⟨_, rfl⟩
      have hmz : askR s x R = m := by
        rw [← hm, List.take_of_length_le (by rw [List.length_mapIdx, HLL.out.1]; exact Nat.le_refl _)]
        rfl
      rw [hm, hmz]
      have u3 : (m != m) = false := by simp
      replace SFP := Lib.hid (SFP.out.below HW.out)
      replace SFJ := Lib.hid (SFJ.out.below HW.out)
      have HB7 := Lib.hid (below_on HB6.out HW.out)
      obtain ⟨wq, hwq⟩ : ∃ wq, wq = wr := ⟨_, rfl⟩
      subst hwq
      have HCo := count_ref n wq
      rw [count_out] at HCo
      obtain ⟨⟨a0, a1⟩, ⟨b0, b1⟩, k0, n0⟩ := BX.out.cells
      clear hm hmz HW HB6
      cases hob : outB n
      · rw [hob] at HCo
        replace HCo := Lib.hid HCo
        have hnn := outB_no hob
        have hEt : EP = tooE (putR s x n R) := by rw [← HEE.out.1]; exact putE_ok HG.out hnn.1 hnn.2
        have hT1 := tables3_any 26 (some ⟨X, 0, none⟩) (some ⟨X + 2, 0, none⟩) (some ⟨X + 3, 0, none⟩) (fun i k => if (k : Int) = (colN s x i : Nat) then n else 0) s a k cap R anyB wq BX.out.t.2 HG.out (fun _ _ _ => rfl) (fun i j hi hj U hU => clo1_any X s a k cap R V b len2 cap2 Q x n i j s1 s2 (by omega) U (BX.out.below hU)) (fun i j _ _ => by
          show 0 ≤ (if (j : Int) = (colN s x i : Nat) then n else 0) ∧ (if (j : Int) = (colN s x i : Nat) then n else 0) ≤ 1000000000000
          split <;> omega)
        rw [tabF_put, ← hEt] at hT1
        have HT1 := Lib.hid hT1
        have HEt := Lib.hid hEt
        have u4 : (EP != EP) = false := by simp
        clear hob hnn hEt hT1
        go_wp2_with fail
        refine HCo.out.mono ?_
        rintro e w6 ⟨rfl, hw6⟩
        rw [← hw6]
        clear hw6 HCo
        go_wp2_with fail
        clear a0 a1 b0 b1 k0 n0
        refine HT1.out.mono ?_
        rintro e w7 ⟨S7, a7, l7, c7, R7, rfl, hcase, htt, hb⟩
        have hsame : SP = S7 ∧ RP = R7 := by
          rcases CP1.out with ⟨h, h1, h2⟩ | ⟨h, s', hs', _, _, h1, h2⟩
          · rcases hcase with ⟨h3, _⟩ | ⟨_, h4, h5⟩
            · exact absurd h3 h
            · exact ⟨by rw [h1, h4], by rw [h2, h5]⟩
          · obtain rfl : s' = s := by omega
            rcases hcase with ⟨_, h4, h5⟩ | ⟨h3, _⟩
            · exact ⟨by rw [h1, h4], by rw [h2, h5]⟩
            · exact absurd h h3
        obtain ⟨rfl, rfl⟩ := hsame
        have hz := ST.new (W := SP) htt
        have HBn := below_on (below_on HB7.out hb) hz.2
        replace BX := Lib.hid ((BX.out.below hb).below hz.2)
        replace SFP := Lib.hid ((SFP.out.below hb).below hz.2)
        replace SFJ := Lib.hid ((SFJ.out.below hb).below hz.2)
        obtain ⟨w8, hv⟩ : ∃ v, w7.alloc (.cells #[.int .i64 SP, .slice a7 l7 c7] 39) = v := ⟨_, rfl⟩
        rw [hv] at hz HBn BX SFP SFJ
        obtain ⟨X7, hX⟩ : ∃ X, w7.heap.size = X := ⟨_, rfl⟩
        rw [hX] at hz
        have SF7 := Lib.hid hz.1
        have HB8 := Lib.hid HBn
        have HVX := Lib.hid (And.intro hv hX)
        clear hz HBn hb htt hv hX HT1 HB7 hcase
        go_upto_region 21 with fail
        rw [HVX.out.1, HVX.out.2]
        clear HVX
        have D1 := Lib.hid (sameT_any SP SP aP a7 lP cP l7 c7 RP RP anyB anyB w8 SFP.out.2 SF7.out.2 true (by simp))
        obtain ⟨p0, p1⟩ := SFP.out.cells
        obtain ⟨q0, q1⟩ := SF7.out.cells
        go_wp2_with fail
        clear p0 p1 q0 q1
        refine D1.out.mono ?_
        rintro e w9 ⟨rfl, hb⟩
        replace BX := Lib.hid (BX.out.below hb)
        replace SFJ := Lib.hid (SFJ.out.below hb)
        have HB9 := Lib.hid (below_on HB8.out hb)
        clear hb D1 HB8 SF7 SFP
        obtain ⟨⟨a0, a1⟩, ⟨b0, b1⟩, k0, n0⟩ := BX.out.cells
        go_wp2_with fail
        clear a0 a1 b0 b1 k0 n0
        refine (C7.out _ BX.out.u.2).mono ?_
        rintro e w10 ⟨rfl, hb⟩
        replace BX := Lib.hid (BX.out.below hb)
        replace SFJ := Lib.hid (SFJ.out.below hb)
        have HB10 := Lib.hid (below_on HB9.out hb)
        clear hb C7 HB9
        have hJD := joinE_two (V := V) (Q := Q) HEE.out.2.1
        rw [HEE.out.2.2.1, HEE.out.2.2.2] at hJD
        obtain ⟨⟨a0, a1⟩, ⟨b0, b1⟩, k0, n0⟩ := BX.out.cells
        obtain ⟨p0, p1⟩ := SFJ.out.cells
        by_cases hJ : J ≠ 0 ∧ (E2 ≠ 0 ∨ (s : Int) ≠ V ∨ k ≠ len2)
        · obtain ⟨rfl, rfl⟩ : SJ = 0 ∧ RJ = [] := by
            rcases CJ1.out with ⟨_, h1, h2⟩ | ⟨h, _⟩
            · exact ⟨h1, h2⟩
            · exact absurd h hJ.1
          obtain rfl : lJ = 0 := by rw [← HLJ.out]; rfl
          have D2 := Lib.hid (sameT_any 0 0 aJ none 0 cJ 0 0 [] [] anyB anyB w10 SFJ.out.2 (nil_same w10) true (by simp))
          have tJ2 : (J == J) = true := by simp
          by_cases hE2 : E2 ≠ 0
          · rw [if_pos hE2] at hJD
            subst hJD
            have tE : (J == 0) = false := by simpa using hE2
            have tJ : (J != 0) = true := by simpa using hE2
            clear hJ hE2 CP1 CJ1 HEE HLJ HLP
            go_wp2_with fail
            refine D2.out.mono ?_
            rintro e w11 ⟨rfl, hb⟩
            have HBZ := Lib.hid (below_on HB10.out hb)
            clear hb
            go_wp2_with fail
            go_ret
            exact ⟨rfl, HBZ.out⟩
          · obtain rfl : E2 = 0 := by omega
            rw [if_neg (by simp)] at hJD
            by_cases hS : (s : Int) ≠ V
            · obtain rfl : J = 7 := by rw [hJD, if_pos (Or.inl hS)]
              have tS : ((s : Int) != V) = true := by simpa using hS
              clear hJ hE2 hJD hS CP1 CJ1 HEE HLJ HLP
              go_wp2_with fail
              refine D2.out.mono ?_
              rintro e w11 ⟨rfl, hb⟩
              have HBZ := Lib.hid (below_on HB10.out hb)
              clear hb
              go_wp2_with fail
              go_ret
              exact ⟨rfl, HBZ.out⟩
            · have hK : k ≠ len2 := by
                rcases hJ.2 with h | h | h
                · exact absurd rfl h
                · exact absurd h hS
                · exact h
              obtain rfl : J = 7 := by rw [hJD, if_pos (Or.inr (by rw [HLL.out.1, HLL.out.2]; exact hK))]
              have tS : ((s : Int) != V) = false := by simpa using hS
              have tK : ((k : Int) != (len2 : Int)) = true := by simpa using (by omega : ¬ (k : Int) = (len2 : Int))
              clear hJ hE2 hJD hS hK CP1 CJ1 HEE HLJ HLP
              go_wp2_with fail
              refine D2.out.mono ?_
              rintro e w11 ⟨rfl, hb⟩
              have HBZ := Lib.hid (below_on HB10.out hb)
              clear hb
              go_wp2_with fail
              go_ret
              exact ⟨rfl, HBZ.out⟩
        · have hE20 : E2 = 0 := by
            by_cases h : E2 = 0
            · exact h
            · rw [if_pos h] at hJD
              exact absurd ⟨by rw [hJD]; exact h, Or.inl h⟩ hJ
          subst hE20
          rw [if_neg (by simp)] at hJD
          have hSV : (s : Int) = V := by
            by_cases h : (s : Int) = V
            · exact h
            · rw [if_pos (Or.inl h)] at hJD
              exact absurd ⟨by rw [hJD]; decide, Or.inr (Or.inl h)⟩ hJ
          have hkl : k = len2 := by
            by_cases h : k = len2
            · exact h
            · rw [if_pos (Or.inr (by rw [HLL.out.1, HLL.out.2]; exact h))] at hJD
              exact absurd ⟨by rw [hJD]; decide, Or.inr (Or.inr h)⟩ hJ
          subst hSV hkl
          rw [if_neg (by rw [HLL.out.1, HLL.out.2]; simp)] at hJD
          obtain ⟨s', hs', hgq⟩ := tabE_zero HEE.out.2.2.1
          obtain rfl : s' = s := by omega
          have hRQ : R.length = Q.length := by rw [HLL.out.1, HLL.out.2]
          have hT2 := tables1_any 27 (some ⟨X + 1, 0, none⟩) (fun i k => ((Q[i]?).getD []).getD k 0) s' a k cap R anyB w10 BX.out.t.2 HG.out (fun _ _ _ => rfl) (fun i j hi hj U hU => clo2_any (X + 1) s' s' b k cap2 Q i j hi hj hgq U (BX.out.u.below hU)) (fun i j hi hj => by
            obtain ⟨q, hq⟩ : ∃ q, Q[i]? = some q := ⟨_, List.getElem?_eq_getElem (by rw [HLL.out.2]; exact hi)⟩
            have hqm := List.mem_of_getElem? hq
            obtain ⟨y, hy⟩ : ∃ y, q[j]? = some y := ⟨_, List.getElem?_eq_getElem (by rw [hgq.len q hqm]; exact hj)⟩
            show 0 ≤ ((Q[i]?).getD []).getD j 0 ∧ ((Q[i]?).getD []).getD j 0 ≤ 1000000000000
            rw [hq, Option.getD_some, List.getD_eq_getElem?_getD, hy, Option.getD_some]
            exact hgq.cnt q hqm y (List.mem_of_getElem? hy))
          rw [tabF_join HG.out.len hgq.len hRQ, ← hJD] at hT2
          have HT2 := Lib.hid hT2
          have tS : ((s' : Int) != (s' : Int)) = false := by simp
          have tK : ((k : Int) != (k : Int)) = false := by simp
          have tJ2 : (J == J) = true := by simp
          clear hJ hT2 hgq hs' hJD
          go_wp2_with fail
          clear a0 a1 b0 b1 k0 n0 p0 p1
          refine HT2.out.mono ?_
          rintro e w11 ⟨S8, a8, l8, c8, R8, rfl, hcase, htt, hb⟩
          have hsame : SJ = S8 ∧ RJ = R8 := by
            rcases CJ1.out with ⟨h, h1, h2⟩ | ⟨h, s2', hs2', _, _, _, _, h1, h2⟩
            · rcases hcase with ⟨h3, _⟩ | ⟨_, h4, h5⟩
              · exact absurd h3 h
              · exact ⟨by rw [h1, h4], by rw [h2, h5]⟩
            · obtain rfl : s2' = s' := by omega
              rcases hcase with ⟨_, h4, h5⟩ | ⟨h3, _⟩
              · exact ⟨by rw [h1, h4], by rw [h2, h5]⟩
              · exact absurd h h3
          obtain ⟨rfl, rfl⟩ := hsame
          have hz := ST.new (W := SJ) htt
          have HBn := below_on (below_on HB10.out hb) hz.2
          replace SFJ := Lib.hid ((SFJ.out.below hb).below hz.2)
          obtain ⟨w12, hv⟩ : ∃ v, w11.alloc (.cells #[.int .i64 SJ, .slice a8 l8 c8] 39) = v := ⟨_, rfl⟩
          rw [hv] at hz HBn SFJ
          obtain ⟨X8, hX⟩ : ∃ X, w11.heap.size = X := ⟨_, rfl⟩
          rw [hX] at hz
          have SF8 := Lib.hid hz.1
          have HB11 := Lib.hid HBn
          have HVX := Lib.hid (And.intro hv hX)
          clear hz HBn hb htt hv hX HT2 HB10 hcase
          go_upto_region 29 with fail
          rw [HVX.out.1, HVX.out.2]
          clear HVX
          have D3 := Lib.hid (sameT_any SJ SJ aJ a8 lJ cJ l8 c8 RJ RJ anyB anyB w12 SFJ.out.2 SF8.out.2 true (by simp))
          obtain ⟨p0, p1⟩ := SFJ.out.cells
          obtain ⟨q0, q1⟩ := SF8.out.cells
          go_wp2_with fail
          clear p0 p1 q0 q1
          refine D3.out.mono ?_
          rintro e w13 ⟨rfl, hb⟩
          have HBZ := Lib.hid (below_on HB11.out hb)
          clear hb D3 HB11
          go_wp2_with fail
          go_ret
          exact ⟨rfl, HBZ.out⟩
      · rw [hob] at HCo
        replace HCo := Lib.hid HCo
        obtain rfl : EP = 1 := by rw [← HEE.out.1]; exact putE_arg HG.out hob
        obtain ⟨rfl, rfl⟩ : SP = 0 ∧ RP = [] := by
          rcases CP1.out with ⟨_, h1, h2⟩ | ⟨h, _⟩
          · exact ⟨h1, h2⟩
          · cases h
        obtain rfl : lP = 0 := by rw [← HLP.out]; rfl
        have D1 := Lib.hid (sameT_any 0 0 aP none 0 cP 0 0 [] [] anyB anyB wq SFP.out.2 (nil_same wq) true (by simp))
        clear hob
        go_wp2_with fail
        refine HCo.out.mono ?_
        rintro e w6 ⟨rfl, hw6⟩
        rw [← hw6]
        clear hw6 HCo
        obtain ⟨p0, p1⟩ := SFP.out.cells
        go_wp2_with fail
        clear p0 p1 a0 a1 b0 b1 k0 n0
        refine D1.out.mono ?_
        rintro e w9 ⟨rfl, hb⟩
        replace BX := Lib.hid (BX.out.below hb)
        replace SFJ := Lib.hid (SFJ.out.below hb)
        have HB9 := Lib.hid (below_on HB7.out hb)
        clear hb D1 HB7 SFP
        obtain ⟨⟨a0, a1⟩, ⟨b0, b1⟩, k0, n0⟩ := BX.out.cells
        go_wp2_with fail
        clear a0 a1 b0 b1 k0 n0
        refine (C7.out _ BX.out.u.2).mono ?_
        rintro e w10 ⟨rfl, hb⟩
        replace BX := Lib.hid (BX.out.below hb)
        replace SFJ := Lib.hid (SFJ.out.below hb)
        have HB10 := Lib.hid (below_on HB9.out hb)
        clear hb C7 HB9
        have hJD := joinE_two (V := V) (Q := Q) HEE.out.2.1
        rw [HEE.out.2.2.1, HEE.out.2.2.2] at hJD
        obtain ⟨⟨a0, a1⟩, ⟨b0, b1⟩, k0, n0⟩ := BX.out.cells
        obtain ⟨p0, p1⟩ := SFJ.out.cells
        by_cases hJ : J ≠ 0 ∧ (E2 ≠ 0 ∨ (s : Int) ≠ V ∨ k ≠ len2)
        · obtain ⟨rfl, rfl⟩ : SJ = 0 ∧ RJ = [] := by
            rcases CJ1.out with ⟨_, h1, h2⟩ | ⟨h, _⟩
            · exact ⟨h1, h2⟩
            · exact absurd h hJ.1
          obtain rfl : lJ = 0 := by rw [← HLJ.out]; rfl
          have D2 := Lib.hid (sameT_any 0 0 aJ none 0 cJ 0 0 [] [] anyB anyB w10 SFJ.out.2 (nil_same w10) true (by simp))
          have tJ2 : (J == J) = true := by simp
          by_cases hE2 : E2 ≠ 0
          · rw [if_pos hE2] at hJD
            subst hJD
            have tE : (J == 0) = false := by simpa using hE2
            have tJ : (J != 0) = true := by simpa using hE2
            clear hJ hE2 CP1 CJ1 HEE HLJ HLP
            go_wp2_with fail
            refine D2.out.mono ?_
            rintro e w11 ⟨rfl, hb⟩
            have HBZ := Lib.hid (below_on HB10.out hb)
            clear hb
            go_wp2_with fail
            go_ret
            exact ⟨rfl, HBZ.out⟩
          · obtain rfl : E2 = 0 := by omega
            rw [if_neg (by simp)] at hJD
            by_cases hS : (s : Int) ≠ V
            · obtain rfl : J = 7 := by rw [hJD, if_pos (Or.inl hS)]
              have tS : ((s : Int) != V) = true := by simpa using hS
              clear hJ hE2 hJD hS CP1 CJ1 HEE HLJ HLP
              go_wp2_with fail
              refine D2.out.mono ?_
              rintro e w11 ⟨rfl, hb⟩
              have HBZ := Lib.hid (below_on HB10.out hb)
              clear hb
              go_wp2_with fail
              go_ret
              exact ⟨rfl, HBZ.out⟩
            · have hK : k ≠ len2 := by
                rcases hJ.2 with h | h | h
                · exact absurd rfl h
                · exact absurd h hS
                · exact h
              obtain rfl : J = 7 := by rw [hJD, if_pos (Or.inr (by rw [HLL.out.1, HLL.out.2]; exact hK))]
              have tS : ((s : Int) != V) = false := by simpa using hS
              have tK : ((k : Int) != (len2 : Int)) = true := by simpa using (by omega : ¬ (k : Int) = (len2 : Int))
              clear hJ hE2 hJD hS hK CP1 CJ1 HEE HLJ HLP
              go_wp2_with fail
              refine D2.out.mono ?_
              rintro e w11 ⟨rfl, hb⟩
              have HBZ := Lib.hid (below_on HB10.out hb)
              clear hb
              go_wp2_with fail
              go_ret
              exact ⟨rfl, HBZ.out⟩
        · have hE20 : E2 = 0 := by
            by_cases h : E2 = 0
            · exact h
            · rw [if_pos h] at hJD
              exact absurd ⟨by rw [hJD]; exact h, Or.inl h⟩ hJ
          subst hE20
          rw [if_neg (by simp)] at hJD
          have hSV : (s : Int) = V := by
            by_cases h : (s : Int) = V
            · exact h
            · rw [if_pos (Or.inl h)] at hJD
              exact absurd ⟨by rw [hJD]; decide, Or.inr (Or.inl h)⟩ hJ
          have hkl : k = len2 := by
            by_cases h : k = len2
            · exact h
            · rw [if_pos (Or.inr (by rw [HLL.out.1, HLL.out.2]; exact h))] at hJD
              exact absurd ⟨by rw [hJD]; decide, Or.inr (Or.inr h)⟩ hJ
          subst hSV hkl
          rw [if_neg (by rw [HLL.out.1, HLL.out.2]; simp)] at hJD
          obtain ⟨s', hs', hgq⟩ := tabE_zero HEE.out.2.2.1
          obtain rfl : s' = s := by omega
          have hRQ : R.length = Q.length := by rw [HLL.out.1, HLL.out.2]
          have hT2 := tables1_any 27 (some ⟨X + 1, 0, none⟩) (fun i k => ((Q[i]?).getD []).getD k 0) s' a k cap R anyB w10 BX.out.t.2 HG.out (fun _ _ _ => rfl) (fun i j hi hj U hU => clo2_any (X + 1) s' s' b k cap2 Q i j hi hj hgq U (BX.out.u.below hU)) (fun i j hi hj => by
            obtain ⟨q, hq⟩ : ∃ q, Q[i]? = some q := ⟨_, List.getElem?_eq_getElem (by rw [HLL.out.2]; exact hi)⟩
            have hqm := List.mem_of_getElem? hq
            obtain ⟨y, hy⟩ : ∃ y, q[j]? = some y := ⟨_, List.getElem?_eq_getElem (by rw [hgq.len q hqm]; exact hj)⟩
            show 0 ≤ ((Q[i]?).getD []).getD j 0 ∧ ((Q[i]?).getD []).getD j 0 ≤ 1000000000000
            rw [hq, Option.getD_some, List.getD_eq_getElem?_getD, hy, Option.getD_some]
            exact hgq.cnt q hqm y (List.mem_of_getElem? hy))
          rw [tabF_join HG.out.len hgq.len hRQ, ← hJD] at hT2
          have HT2 := Lib.hid hT2
          have tS : ((s' : Int) != (s' : Int)) = false := by simp
          have tK : ((k : Int) != (k : Int)) = false := by simp
          have tJ2 : (J == J) = true := by simp
          clear hJ hT2 hgq hs' hJD
          go_wp2_with fail
          clear a0 a1 b0 b1 k0 n0 p0 p1
          refine HT2.out.mono ?_
          rintro e w11 ⟨S8, a8, l8, c8, R8, rfl, hcase, htt, hb⟩
          have hsame : SJ = S8 ∧ RJ = R8 := by
            rcases CJ1.out with ⟨h, h1, h2⟩ | ⟨h, s2', hs2', _, _, _, _, h1, h2⟩
            · rcases hcase with ⟨h3, _⟩ | ⟨_, h4, h5⟩
              · exact absurd h3 h
              · exact ⟨by rw [h1, h4], by rw [h2, h5]⟩
            · obtain rfl : s2' = s' := by omega
              rcases hcase with ⟨_, h4, h5⟩ | ⟨h3, _⟩
              · exact ⟨by rw [h1, h4], by rw [h2, h5]⟩
              · exact absurd h h3
          obtain ⟨rfl, rfl⟩ := hsame
          have hz := ST.new (W := SJ) htt
          have HBn := below_on (below_on HB10.out hb) hz.2
          replace SFJ := Lib.hid ((SFJ.out.below hb).below hz.2)
          obtain ⟨w12, hv⟩ : ∃ v, w11.alloc (.cells #[.int .i64 SJ, .slice a8 l8 c8] 39) = v := ⟨_, rfl⟩
          rw [hv] at hz HBn SFJ
          obtain ⟨X8, hX⟩ : ∃ X, w11.heap.size = X := ⟨_, rfl⟩
          rw [hX] at hz
          have SF8 := Lib.hid hz.1
          have HB11 := Lib.hid HBn
          have HVX := Lib.hid (And.intro hv hX)
          clear hz HBn hb htt hv hX HT2 HB10 hcase
          go_upto_region 29 with fail
          rw [HVX.out.1, HVX.out.2]
          clear HVX
          have D3 := Lib.hid (sameT_any SJ SJ aJ a8 lJ cJ l8 c8 RJ RJ anyB anyB w12 SFJ.out.2 SF8.out.2 true (by simp))
          obtain ⟨p0, p1⟩ := SFJ.out.cells
          obtain ⟨q0, q1⟩ := SF8.out.cells
          go_wp2_with fail
          clear p0 p1 q0 q1
          refine D3.out.mono ?_
          rintro e w13 ⟨rfl, hb⟩
          have HBZ := Lib.hid (below_on HB11.out hb)
          clear hb D3 HB11
          go_wp2_with fail
          go_ret
          exact ⟨rfl, HBZ.out⟩

set_option maxRecDepth 100000 in
theorem lifted (os : Os) (started : os.Started) (H : Type) (enc : TypeId × Value → H) :
    ReturnsInHanded {} Try.checked os 4 .any (Rows.tableSaysSpec.pre6 enc Try.prog Try.f4 Rows.tableSaysRow.domain false) (Rows.tableSaysSpec.post enc Try.prog Try.f4 false true false false) := by
  refine returnsInHanded_of_change_sized (C := Try.checked) own started (by kernel_rfl) Try.func4
    (ChangeSpec.witness6 (enc := enc) (C := Try.checked) false ⟨#[], #[.agg #[.int .i64 0, .slice none 0 0], .agg #[.int .i64 0, .slice none 0 0], .int .i64 0, .int .i64 0], []⟩ 8 (by kernel_rfl) (by kernel_rfl) (by kernel_rfl) (by kernel_rfl)) ?_
  intro W base args ds gs before hval0 hW hcnd hsz0 _
  have hval : ∀ (j : Nat) t v, Try.f4.params[j]? = some t → args[j]? = some v → Value.okWide Try.prog W .any base t v := hval0
  have hW' := hW
  obtain ⟨p, q, hA0, hV, rfl, hfz, hnd⟩ := hW
  have hA : DataW.TrodAll enc Try.prog W 0 (fun _ => true) true Try.f4.params.toList args.toList ds p := hA0
  have hsz : (DataW.weightsEach Try.prog (Try.f4.params.toList ++ Rows.tableSaysSpec.plain.varTypes Try.prog) (ds ++ gs)).all (· ≤ reachBytes) = true := hsz0
  rw [Try.params4] at hA hval hsz
  obtain ⟨v0, vs0, d0, ds0, p0, q0, hargs, rfl, rfl, h0, r0⟩ := trodAll_cons hA
  obtain ⟨v1, vs1, d1, ds1, p1, q1, rfl, rfl, rfl, h1, r1⟩ := trodAll_cons r0
  obtain ⟨v2, vs2, d2, ds2, p2, q2, rfl, rfl, rfl, h2, r2⟩ := trodAll_cons r1
  obtain ⟨v3, vs3, d3, ds3, p3, q3, rfl, rfl, rfl, h3, r3⟩ := trodAll_cons r2
  obtain ⟨rfl, rfl, rfl⟩ := trodAll_nil r3
  obtain rfl : args = #[v0, v1, v2, v3] := by cases args; simp_all
  obtain ⟨rfl, rfl⟩ := trodVars_none hV
  have k0 := h0
  have L0 := light_of hsz (j := 0) (t := 39) (d := d0) rfl rfl
  have lt0 : ∀ x ∈ p0, x.block < W.heap.size := by obtain ⟨m, hm⟩ := k0; exact DataW.trod_lt m _ _ _ hm
  obtain ⟨cs0, rfl, hsz0⟩ := okWide_struct Try.underlying39 (hval 0 39 v0 rfl rfl)
  obtain ⟨n0, f0⟩ := trod_agg_of h0
  obtain ⟨c0_0, c0_1, _, _, _, _, hcs0, g0_0, g0_1⟩ := struct2 Try.underlying39 (by kernel_rfl) (by kernel_rfl) f0 L0
  obtain ⟨x0_0, e0_0, _, w0_0⟩ := DataW.trod_int Try.underlying3 g0_0.1
  obtain ⟨x0_1, e0_1, t0_1, b0_1, o0_1⟩ := el_slice (w := W) (k := 1) slC (fun y : Sl Int => Tab W y.a y.len y.cap 1 (y.l.map iC) ∧ y.len * 8 ≤ 140737488351232 ∧ ∀ z ∈ y.l, wfI z) (by decide) Try.underlying37 (by kernel_rfl) (el_slice (k := 1) iC wfI (by decide) Try.underlying34 (by kernel_rfl) (el_int Try.underlying3) (B := 8) (by kernel_rfl)) (B := 24) (by kernel_rfl) _ _ _ g0_1.1 g0_1.2
  simp only [slC, List.cons.injEq, and_true] at e0_0 e0_1
  subst e0_0 e0_1
  obtain rfl : cs0 = #[.int .i64 x0_0, .slice x0_1.a x0_1.len x0_1.cap] := Array.toList_inj.1 hcs0
  have k1 := h1
  have L1 := light_of hsz (j := 1) (t := 39) (d := d1) rfl rfl
  have lt1 : ∀ x ∈ p1, x.block < W.heap.size := by obtain ⟨m, hm⟩ := k1; exact DataW.trod_lt m _ _ _ hm
  obtain ⟨cs1, rfl, hsz1⟩ := okWide_struct Try.underlying39 (hval 1 39 v1 rfl rfl)
  obtain ⟨n1, f1⟩ := trod_agg_of h1
  obtain ⟨c1_0, c1_1, _, _, _, _, hcs1, g1_0, g1_1⟩ := struct2 Try.underlying39 (by kernel_rfl) (by kernel_rfl) f1 L1
  obtain ⟨x1_0, e1_0, _, w1_0⟩ := DataW.trod_int Try.underlying3 g1_0.1
  obtain ⟨x1_1, e1_1, t1_1, b1_1, o1_1⟩ := el_slice (w := W) (k := 1) slC (fun y : Sl Int => Tab W y.a y.len y.cap 1 (y.l.map iC) ∧ y.len * 8 ≤ 140737488351232 ∧ ∀ z ∈ y.l, wfI z) (by decide) Try.underlying37 (by kernel_rfl) (el_slice (k := 1) iC wfI (by decide) Try.underlying34 (by kernel_rfl) (el_int Try.underlying3) (B := 8) (by kernel_rfl)) (B := 24) (by kernel_rfl) _ _ _ g1_1.1 g1_1.2
  simp only [slC, List.cons.injEq, and_true] at e1_0 e1_1
  subst e1_0 e1_1
  obtain rfl : cs1 = #[.int .i64 x1_0, .slice x1_1.a x1_1.len x1_1.cap] := Array.toList_inj.1 hcs1
  have k2 := h2
  have L2 := light_of hsz (j := 2) (t := 3) (d := d2) rfl rfl
  have lt2 : ∀ x ∈ p2, x.block < W.heap.size := by obtain ⟨m, hm⟩ := k2; exact DataW.trod_lt m _ _ _ hm
  obtain ⟨x2, rfl, rfl, rfl, w2⟩ := open_int Try.underlying3 (hval 2 3 v2 rfl rfl) h2
  have k3 := h3
  have L3 := light_of hsz (j := 3) (t := 3) (d := d3) rfl rfl
  have lt3 : ∀ x ∈ p3, x.block < W.heap.size := by obtain ⟨m, hm⟩ := k3; exact DataW.trod_lt m _ _ _ hm
  obtain ⟨x3, rfl, rfl, rfl, w3⟩ := open_int Try.underlying3 (hval 3 3 v3 rfl rfl) h3
  clear hA0 hval0
  refine (walk x0_0 x0_1 x1_0 x1_1 x2 x3 W w0_0 t0_1 b0_1 o0_1 w1_0 t1_1 b1_1 o1_1 w2 w3).mono fun e W' ⟨he, hg⟩ => ?_
  subst he
  exact ⟨_, rfl, _, _, _, [], _, [], hW', trodAll_mk1 (shut_bool Try.underlying4 _), (trodAll_cons_mk (Below.trod laidOut (by kernel_rfl) (of_decide_eq_true (by kernel_rfl)) k0 hg lt0) (trodAll_cons_mk (Below.trod laidOut (by kernel_rfl) (of_decide_eq_true (by kernel_rfl)) k1 hg lt1) (trodAll_cons_mk (Below.trod laidOut (by kernel_rfl) (of_decide_eq_true (by kernel_rfl)) k2 hg lt2) (trodAll_cons_mk (Below.trod laidOut (by kernel_rfl) (of_decide_eq_true (by kernel_rfl)) k3 hg lt3) trodAll_mk0)))), rfl, hg.frame _, fun h => by cases h⟩

theorem over : Rows.tableSaysRow.holds Try.pinned (OpenSpec.ofChange Rows.tableSaysSpec) :=
  OpenClaim.holds_of_wide 4 Try.f4 rfl rfl rfl rfl rfl rfl rfl ⟨rfl, rfl, rfl, rfl, rfl⟩ rfl rfl rfl rfl rfl (by kernel_rfl) Try.func4 (by kernel_rfl)
    (of_decide_eq_true (by kernel_rfl)) (by unfold Func.isWrapper; first | (rw [if_pos (by decide +kernel)]; kernel_rfl) | (rw [if_neg (by decide +kernel)]; exact ⟨rfl, rfl⟩))
    (fun os started H enc _ => lifted os started H enc)

/-- ████ THE STATEMENT ████ -/
theorem proved : Rows.TableSaysSaid :=
  over
#print axioms proved
end Go.Proofs.Ytcfejbhoeichnaa.tableSays
