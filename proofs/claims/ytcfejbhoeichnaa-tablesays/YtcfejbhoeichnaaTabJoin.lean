/- The contract of the program's table.Join. -/
import Derived.Test.YtcfejbhoeichnaaTabPut
namespace Go.Proofs.Ytcfejbhoeichnaa
open Go.ChangeShapes Go.WideShapes Go.ChangeAt Go.RowKit
open Tbl

namespace Tbl
/-- the three boxes of a join -/
structure Box3 (w0 w : World) (t u : Value) (W V : Int) : Prop where
  b : Below w0.heap.size w0 w
  k1 : w.heap[w0.heap.size]? = some (.cells #[.int .i64 W, t] 39 (0, 0))
  k2 : w.heap[w0.heap.size + 1]? = some (.cells #[.int .i64 V, u] 39 (0, 0))
  k3 : w.heap[w0.heap.size + 2]? = some (.cells #[.int .i64 0, .slice none 0 0] 39 (0, 0))
theorem Box3.new (w : World) (t u : Value) (W V : Int) : Box3 w (((w.alloc (.cells #[.int .i64 W, t] 39)).alloc (.cells #[.int .i64 V, u] 39)).alloc (.cells #[.int .i64 0, .slice none 0 0] 39)) t u W V := by
  have s1 : (w.alloc (.cells #[.int .i64 W, t] 39)).heap.size = w.heap.size + 1 := by simp
  have s2 : ((w.alloc (.cells #[.int .i64 W, t] 39)).alloc (.cells #[.int .i64 V, u] 39)).heap.size = w.heap.size + 2 := by simp
  refine ⟨(((Below.refl _ _).alloc (Nat.le_refl _) _).alloc (by simp) _).alloc (by rw [s2]; omega) _, ?_, ?_, ?_⟩
  · rw [Below.heap_alloc _ _ _ (by rw [s2]; omega), Below.heap_alloc _ _ _ (by rw [s1]; omega)]
    exact (MapKept.heap_alloc w _).1
  · rw [Below.heap_alloc _ _ _ (by rw [s2]; omega), ← s1]
    exact (MapKept.heap_alloc _ _).1
  · rw [← s2]
    exact (MapKept.heap_alloc _ _).1
theorem Box3.on {w0 w w' : World} {t u : Value} {W V : Int} (h : Box3 w0 w t u W V) (hb : Below w.heap.size w w') : Box3 w0 w' t u W V := ⟨below_on h.b hb, kept hb h.k1, kept hb h.k2, kept hb h.k3⟩
end Tbl

set_option maxRecDepth 100000 in
set_option maxHeartbeats 4000000 in
theorem tjoin_bad (W V : Int) (a b : Option Addr) (len cap len2 cap2 : Nat) (R Q : List (List Int)) (P P2 : Nat → Prop) (w : World) (hT : TTx w P a len cap R) (hT2 : TTx w P2 b len2 cap2 Q) (hE : tabE W R ≠ 0 ∨ tabE V Q ≠ 0 ∨ W ≠ V ∨ R.length ≠ Q.length) :
    Calls Try.prog 19 #[.agg #[.int .i64 W, .slice a len cap], .agg #[.int .i64 V, .slice b len2 cap2]] w fun e w' => e = .returned (.tuple #[.agg #[.int .i64 0, .slice none 0 0], .int .i64 (if tabE W R ≠ 0 then tabE W R else if tabE V Q ≠ 0 then tabE V Q else 7)]) ∧ Below w.heap.size w w' := by
  have hbx := Box3.new w (.slice a len cap) (.slice b len2 cap2) W V
  obtain ⟨v0, hv0⟩ : ∃ v, (((w.alloc (.cells #[.int .i64 W, .slice a len cap] 39)).alloc (.cells #[.int .i64 V, .slice b len2 cap2] 39)).alloc (.cells #[.int .i64 0, .slice none 0 0] 39)) = v := ⟨_, rfl⟩
  rw [hv0] at hbx
  have HC := fun U (h : Below w.heap.size w U) => tcheck_any W a len cap R P U (hT.below h)
  have HC2 := fun U (h : Below w.heap.size w U) => tcheck_any V b len2 cap2 Q P2 U (hT2.below h)
  have hl := hT.len
  have hl2 := hT2.len
  have hm := hT.max
  have hm2 := hT2.max
  obtain ⟨E, hEE⟩ : ∃ E, tabE W R = E := ⟨_, rfl⟩
  obtain ⟨E2, hEE2⟩ : ∃ E, tabE V Q = E := ⟨_, rfl⟩
  rw [hEE] at HC hE
  rw [hEE2] at HC2 hE
  rw [hl, hl2] at hE
  rw [hEE, hEE2]
  replace HC := Lib.hid HC
  replace HC2 := Lib.hid HC2
  have HBX := Lib.hid hbx
  have HV := Lib.hid hv0
  clear hT hT2 hbx hv0 hEE hEE2 hl hl2
  obtain ⟨X, hX⟩ : ∃ X, w.heap.size = X := ⟨_, rfl⟩
  have HX := Lib.hid hX
  by_cases h1 : E ≠ 0
  · rw [if_pos h1]
    have t1 : (E != 0) = true := by simpa using h1
    clear hE h1 HC2
    go_enter Try.func19, Try.ntmps19
    go_upto_region 1 with fail
    rw [HV.out]
    have K1 := Lib.hid HBX.out.k1
    have K3 := Lib.hid HBX.out.k3
    rw [hX] at K1 K3
    rw [show X + 1 + 1 = X + 2 from rfl]
    clear HV hX
    obtain ⟨⟨a0, a1⟩, _⟩ := two_cells K1.out
    go_wp2_with fail
    clear a0 a1
    refine (HC.out _ HBX.out.b).mono ?_
    rintro e w1 ⟨rfl, hb1⟩
    replace K3 := Lib.hid (kept hb1 K3.out)
    have hz := zero_two K3.out 0 (.slice none 0 0)
    have hbz := below_two (below_on HBX.out.b hb1) (b := X + 2) (by rw [← HX.out]; omega) (.int .i64 0) (.slice none 0 0)
    obtain ⟨⟨c0, c1⟩, f0, f1⟩ := two_cells K3.out
    clear hb1 HC
    go_wp2_with fail
    obtain ⟨z0, z1⟩ := hz
    generalize ((w1.setCell { block := X + 2, off := 0 } (Value.int IntKind.i64 0)).setCell { block := X + 2, off := 1 } (Value.slice none 0 0)) = w3 at *
    clear c0 c1 f0 f1
    try simp only [Exit.inBlock, Exit.then]
    refine bodyPost_ret (by simp [results, Try.results19, go_sem, z0, z1, Result.andThen]; try rfl) rfl ?_
    exact ⟨rfl, hbz⟩
  obtain rfl : E = 0 := by omega
  rw [if_neg h1]
  replace hE : E2 ≠ 0 ∨ W ≠ V ∨ len ≠ len2 := by
    rcases hE with h | h
    · exact absurd h h1
    · exact h
  obtain ⟨J, hJ⟩ : ∃ J, (if E2 ≠ 0 then E2 else 7) = J := ⟨_, rfl⟩
  rw [hJ]
  have HJ := Lib.hid hJ
  clear h1 hJ
  go_enter Try.func19, Try.ntmps19
  go_upto_region 1 with fail
  rw [HV.out]
  have K1 := Lib.hid HBX.out.k1
  have K2 := Lib.hid HBX.out.k2
  have K3 := Lib.hid HBX.out.k3
  rw [hX] at K1 K2 K3
  rw [show X + 1 + 1 = X + 2 from rfl]
  clear HV hX
  obtain ⟨⟨a0, a1⟩, _⟩ := two_cells K1.out
  go_wp2_with fail
  clear a0 a1
  refine (HC.out _ HBX.out.b).mono ?_
  rintro e w1 ⟨rfl, hb1⟩
  replace K1 := Lib.hid (kept hb1 K1.out)
  replace K2 := Lib.hid (kept hb1 K2.out)
  replace K3 := Lib.hid (kept hb1 K3.out)
  have HB1 := Lib.hid (below_on HBX.out.b hb1)
  clear hb1 HC HBX
  obtain ⟨⟨a0, a1⟩, _⟩ := two_cells K2.out
  go_wp2_with fail
  clear a0 a1
  refine (HC2.out _ HB1.out).mono ?_
  rintro e w2 ⟨rfl, hb2⟩
  replace K1 := Lib.hid (kept hb2 K1.out)
  replace K2 := Lib.hid (kept hb2 K2.out)
  replace K3 := Lib.hid (kept hb2 K3.out)
  have HB2 := Lib.hid (below_on HB1.out hb2)
  clear hb2 HC2 HB1
  have hz := zero_two K3.out 0 (.slice none 0 0)
  have hbz := below_two HB2.out (b := X + 2) (by rw [← HX.out]; omega) (.int .i64 0) (.slice none 0 0)
  obtain ⟨⟨c0, c1⟩, f0, f1⟩ := two_cells K3.out
  obtain ⟨⟨a0, a1⟩, _⟩ := two_cells K1.out
  obtain ⟨⟨b0, b1⟩, _⟩ := two_cells K2.out
  have HZ := Lib.hid hz
  have HBZ := Lib.hid hbz
  clear hz hbz
  by_cases h2 : E2 ≠ 0
  · obtain rfl : J = E2 := by rw [← HJ.out, if_pos h2]
    have t1 : (J != 0) = true := by simpa using h2
    clear hE h2
    go_wp2_with fail
    obtain ⟨z0, z1⟩ := HZ.out
    generalize ((w2.setCell { block := X + 2, off := 0 } (Value.int IntKind.i64 0)).setCell { block := X + 2, off := 1 } (Value.slice none 0 0)) = w3 at *
    clear c0 c1 f0 f1
    try simp only [Exit.inBlock, Exit.then]
    refine bodyPost_ret (by simp [results, Try.results19, go_sem, z0, z1, Result.andThen]; try rfl) rfl ?_
    exact ⟨rfl, HBZ.out⟩
  obtain rfl : E2 = 0 := by omega
  obtain rfl : J = 7 := by rw [← HJ.out, if_neg h2]
  by_cases h3 : W ≠ V
  · have t1 : (W != V) = true := by simpa using h3
    clear hE h2 h3
    go_wp2_with fail
    obtain ⟨z0, z1⟩ := HZ.out
    generalize ((w2.setCell { block := X + 2, off := 0 } (Value.int IntKind.i64 0)).setCell { block := X + 2, off := 1 } (Value.slice none 0 0)) = w3 at *
    clear c0 c1 f0 f1
    try simp only [Exit.inBlock, Exit.then]
    refine bodyPost_ret (by simp [results, Try.results19, go_sem, z0, z1, Result.andThen]; try rfl) rfl ?_
    exact ⟨rfl, HBZ.out⟩
  obtain rfl : W = V := by omega
  have h4 : len ≠ len2 := by
    rcases hE with h | h | h
    · exact absurd rfl h
    · exact absurd h h3
    · exact h
  have t1 : (W != W) = false := by simp
  have t2 : ((len : Int) != (len2 : Int)) = true := by simpa using (by omega : ¬ (len : Int) = (len2 : Int))
  clear hE h2 h3 h4
  go_wp2_with fail
  obtain ⟨z0, z1⟩ := HZ.out
  generalize ((w2.setCell { block := X + 2, off := 0 } (Value.int IntKind.i64 0)).setCell { block := X + 2, off := 1 } (Value.slice none 0 0)) = w3 at *
  clear c0 c1 f0 f1
  try simp only [Exit.inBlock, Exit.then]
  refine bodyPost_ret (by simp [results, Try.results19, go_sem, z0, z1, Result.andThen]; try rfl) rfl ?_
  exact ⟨rfl, HBZ.out⟩

set_option maxRecDepth 100000 in
set_option maxHeartbeats 6000000 in
theorem tjoin_ok (s : Nat) (a b : Option Addr) (len cap cap2 : Nat) (R Q : List (List Int)) (P P2 : Nat → Prop) (w : World) (hT : TTx w P a len cap R) (hT2 : TTx w P2 b len cap2 Q) (hG : GoodT s R) (hG2 : GoodT s Q) :
    Calls Try.prog 19 #[.agg #[.int .i64 s, .slice a len cap], .agg #[.int .i64 s, .slice b len cap2]] w fun e w' => ∃ (S : Int) (a' : Option Addr) (l' c' : Nat) (R' : List (List Int)), e = .returned (.tuple #[.agg #[.int .i64 S, .slice a' l' c'], .int .i64 (tooE (joinR R Q))]) ∧ (tooE (joinR R Q) = 0 ∧ S = s ∧ R' = joinR R Q ∨ tooE (joinR R Q) ≠ 0 ∧ S = 0 ∧ R' = []) ∧ TTx w' (fun b => w.heap.size ≤ b) a' l' c' R' ∧ Below w.heap.size w w' := by
  have hbx := Box3.new w (.slice a len cap) (.slice b len cap2) s s
  obtain ⟨v0, hv0⟩ : ∃ v, (((w.alloc (.cells #[.int .i64 s, .slice a len cap] 39)).alloc (.cells #[.int .i64 s, .slice b len cap2] 39)).alloc (.cells #[.int .i64 0, .slice none 0 0] 39)) = v := ⟨_, rfl⟩
  rw [hv0] at hbx
  have hC := fun U (h : Below w.heap.size w U) => tcheck_any s a len cap R P U (hT.below h)
  have hC2 := fun U (h : Below w.heap.size w U) => tcheck_any s b len cap2 Q P2 U (hT2.below h)
  rw [tabE_ok hG] at hC
  rw [tabE_ok hG2] at hC2
  have HC := Lib.hid hC
  have HC2 := Lib.hid hC2
  have HO2 := Lib.hid (fun m W => isOutside_any m W)
  obtain ⟨E, hEE⟩ : ∃ E, tooE (joinR R Q) = E := ⟨_, rfl⟩
  rw [hEE]
  have HEE := Lib.hid hEE
  have hl := hT.len
  have hl2 := hT2.len
  have h1 : 1 ≤ len := by rw [← hl]; exact hG.n1
  have h4 : len ≤ 4 := by rw [← hl]; exact hG.n2
  have HCp := Lib.hid (fun W (h : TTx W P a len cap R) => copyRows_any a len cap R P W h h1 h4 (fun r hr => by rw [hG.len r hr]; exact hG.s2))
  have s1 := hG.s1
  have s2 := hG.s2
  have HG := Lib.hid (And.intro hG hG2)
  have HL := Lib.hid (And.intro hl hl2)
  have HT := Lib.hid hT
  have HT2 := Lib.hid hT2
  have HV := Lib.hid hv0
  have HBX := Lib.hid hbx
  have t1 : ((s : Int) != (s : Int)) = false := by simp
  have t2 : ((len : Int) != (len : Int)) = false := by simp
  clear hT hT2 hv0 hC hC2 hl hl2 hG hG2 hEE hbx
  go_enter Try.func19, Try.ntmps19
  go_upto_region 1 with fail
  rw [HV.out]
  have K1 := Lib.hid HBX.out.k1
  have K2 := Lib.hid HBX.out.k2
  have K3 := Lib.hid HBX.out.k3
  obtain ⟨X, hX⟩ : ∃ X, w.heap.size = X := ⟨_, rfl⟩
  have HX := Lib.hid hX
  rw [hX] at K1 K2 K3 ⊢
  rw [show X + 1 + 1 = X + 2 from rfl]
  clear HV hX
  obtain ⟨⟨a0, a1⟩, _⟩ := two_cells K1.out
  go_wp2_with fail
  clear a0 a1
  refine (HC.out _ HBX.out.b).mono ?_
  rintro e w1 ⟨rfl, hb1⟩
  replace K1 := Lib.hid (kept hb1 K1.out)
  replace K2 := Lib.hid (kept hb1 K2.out)
  replace K3 := Lib.hid (kept hb1 K3.out)
  have HB1 := Lib.hid (below_on HBX.out.b hb1)
  clear hb1 HC HBX
  obtain ⟨⟨a0, a1⟩, _⟩ := two_cells K2.out
  go_wp2_with fail
  clear a0 a1
  refine (HC2.out _ HB1.out).mono ?_
  rintro e w2 ⟨rfl, hb2⟩
  replace K1 := Lib.hid (kept hb2 K1.out)
  replace K2 := Lib.hid (kept hb2 K2.out)
  replace K3 := Lib.hid (kept hb2 K3.out)
  have HB2 := Lib.hid (below_on HB1.out hb2)
  clear hb2 HC2 HB1
  obtain ⟨⟨a0, a1⟩, _⟩ := two_cells K1.out
  obtain ⟨⟨b0, b1⟩, _⟩ := two_cells K2.out
  go_wp2_with fail
  clear a0 a1 b0 b1
  refine (HCp.out _ (HT.out.below HB2.out)).mono ?_
  rintro e w3 ⟨g0, c0, l0, rfl, hGr, hlR, hb3⟩
  have hXs : X + 2 < w2.heap.size := (Array.getElem?_eq_some_iff.1 K3.out).1
  replace K1 := Lib.hid (kept hb3 K1.out)
  replace K2 := Lib.hid (kept hb3 K2.out)
  replace K3 := Lib.hid (kept hb3 K3.out)
  have HB3 := Lib.hid (below_on HB2.out hb3)
  have HGr := Lib.hid hGr
  have HlR := Lib.hid hlR
  have HW1 := Lib.hid HB2.out.size
  obtain ⟨B, hB⟩ : ∃ B, w2.heap.size = B := ⟨_, rfl⟩
  rw [hB] at HGr hXs HW1
  have HXB := Lib.hid hXs
  clear hGr hlR hb3 HB2 HCp hXs hB
  go_wp2_with fail
  go_loopg [45] len (fun g i wr => ∃ (k : Nat) (l : List (Value × List Int)), k + g = len ∧ i = .int .i64 k ∧ Hid (l.map (fun p => p.2) = joinTo R Q k) ∧ Hid (∀ j, j < k → ∀ r q, R[j]? = some r → Q[j]? = some q → ∀ x ∈ addL r q, outB x = false) ∧ Hid (Grid wr B (.slice (some ⟨g0, 0, none⟩) len c0) l) ∧ Hid (wr.heap[X]? = some (.cells #[.int .i64 s, .slice a len cap] 39 (0, 0))) ∧ Hid (wr.heap[X + 1]? = some (.cells #[.int .i64 s, .slice b len cap2] 39 (0, 0))) ∧ Hid (wr.heap[X + 2]? = some (.cells #[.int .i64 0, .slice none 0 0] 39 (0, 0))) ∧ Hid (Below w.heap.size w wr))
  case atStart => exact ⟨0, l0, by omega, rfl, Lib.hid (by rw [joinTo_zero]; exact HlR.out), Lib.hid (fun j hj => by omega), HGr, K1, K2, K3, HB3⟩
  case round =>
    clear HlR HGr K1 K2 K3 HB3
    obtain ⟨k, l, hk0, rfl, HLR, HN, HGr, K1, K2, K3, HW⟩ := hrel
    have HJ := Lib.hid hk0
    have hk : k ≤ len := by omega
    clear hk0
    by_cases hlt : k < len
    · obtain ⟨r, hr⟩ : ∃ r, R[k]? = some r := ⟨_, List.getElem?_eq_getElem (by rw [HL.out.1]; exact hlt)⟩
      obtain ⟨q, hq⟩ : ∃ r, Q[k]? = some r := ⟨_, List.getElem?_eq_getElem (by rw [HL.out.2]; exact hlt)⟩
      have hrm := List.mem_of_getElem? hr
      have hqm := List.mem_of_getElem? hq
      have hrl := HG.out.1.len r hrm
      have hql := HG.out.2.len q hqm
      have hlk : (l.map (fun p => p.2))[k]? = some r := by
        rw [HLR.out, joinTo_split hr, List.getElem?_append_right (by rw [List.length_take]; omega), List.length_take, joinR_len (by rw [HL.out.1, HL.out.2]), HL.out.1, show k - min k len = 0 from by omega]
        rfl
      obtain ⟨pr, hpr, hpr2⟩ : ∃ pr, l[k]? = some pr ∧ pr.2 = r := by
        rw [List.getElem?_map] at hlk
        cases h : l[k]? with
        | none => rw [h] at hlk; cases hlk
        | some pr => rw [h] at hlk; exact ⟨pr, rfl, by simpa using hlk⟩
      obtain ⟨d0, d1, _, _⟩ := HGr.out.at_ hpr
      obtain ⟨g, c, hp1, hgB, hgs, hOw⟩ := HGr.out.row hpr (by rw [hpr2, hrl]; exact s1)
      rw [hpr2] at hp1 hOw
      have hll := list_at hpr
      have hprr : pr = (.slice (some ⟨g, 0, none⟩) r.length c, r) := by rw [← hp1, ← hpr2]
      rw [hprr] at hll
      rw [hp1] at d0
      rw [hrl] at d0 hll
      have hgr0 := HGr.out
      rw [hll, ← addTo_zero r q] at hgr0
      have HGr0 := Lib.hid hgr0
      have HRK := Lib.hid (And.intro hr hq)
      have HRL := Lib.hid (And.intro hrl hql)
      have HRM := Lib.hid (And.intro (HG.out.1.cnt r hrm) (HG.out.2.cnt q hqm))
      have hgb : B ≤ g := hgB
      obtain ⟨b2, o2, qa, qn, qc, hab, hbs2, e0, hTq, hqn, hqc, hqmx⟩ := HT2.out.row HW.out hq
      have hqns : s = qn := by rw [← hqn, hql]
      subst hqns
      obtain ⟨⟨b0, b1⟩, _⟩ := two_cells K2.out
      have HTQ : Hid (∀ wx, Below w.heap.size w wx → Tab wx qa s qc 1 (q.map iC)) := Lib.hid (fun wx hb => by
        obtain ⟨b3, o3, qa3, qn3, qc3, hab3, hbs3, e3, hT3, hqn3, _, _⟩ := HT2.out.row hb hq
        rw [hab3] at hab
        simp only [Option.some.injEq, Addr.mk.injEq, and_true] at hab
        have e4 := (hb.cell (p := ⟨b3, o3 + k, none⟩) hbs3).symm.trans e3
        have e5 := (HW.out.cell (p := ⟨b2, o2 + k, none⟩) hbs2).symm.trans e0
        rw [hab.1, hab.2] at e4
        rw [e4] at e5
        simp only [Option.some.injEq, Value.slice.injEq] at e5
        rw [← e5.1, ← e5.2.2]
        have : qn3 = s := e5.2.1
        rw [← this]
        exact hT3)
      have hab2 := Lib.hid hab
      subst hab
      obtain ⟨A, hA⟩ : ∃ A, l.take k = A := ⟨_, rfl⟩
      obtain ⟨C, hC⟩ : ∃ C, l.drop (k + 1) = C := ⟨_, rfl⟩
      rw [hA, hC] at HGr0
      have HAC := Lib.hid (And.intro hA hC)
      clear hr hq hrm hqm hrl hql hlk hpr hpr2 hp1 hOw hll hprr hgr0 hTq hqn HGr hA hC hab2 hgs hgB
      obtain ⟨wo, hwo⟩ : ∃ wo, wo = wr := ⟨_, rfl⟩
      subst hwo
      go_wp2_with fail
      clear d0 d1 e0 b0 b1
      go_loopg [56] s (fun g' i wr => ∃ (j : Nat), j + g' = s ∧ i = .int .i64 j ∧ Hid (∀ m, m < j → ∀ y z, r[m]? = some y → q[m]? = some z → y + z ≤ 1000000000000) ∧ Hid (Grid wr B (.slice (some ⟨g0, 0, none⟩) len c0) (A ++ (.slice (some ⟨g, 0, none⟩) s c, addTo r q j) :: C)) ∧ Hid (wr.heap[X]? = some (.cells #[.int .i64 s, .slice a len cap] 39 (0, 0))) ∧ Hid (wr.heap[X + 1]? = some (.cells #[.int .i64 s, .slice (some ⟨b2, o2, none⟩) len cap2] 39 (0, 0))) ∧ Hid (wr.heap[X + 2]? = some (.cells #[.int .i64 0, .slice none 0 0] 39 (0, 0))) ∧ Hid (Below w.heap.size w wr))
      case atStart => exact ⟨0, by omega, rfl, Lib.hid (fun m hm => by omega), HGr0, K1, K2, K3, HW⟩
      case round =>
        clear HGr0 K1 K2 K3 HW
        obtain ⟨j, hj0, rfl, HM, HGr, K1, K2, K3, HW⟩ := hrel
        have HJ2 := Lib.hid hj0
        have hj : j ≤ s := by omega
        clear hj0
        by_cases hlt2 : j < s
        · obtain ⟨y, hy⟩ : ∃ y, r[j]? = some y := ⟨_, List.getElem?_eq_getElem (by rw [HRL.out.1]; exact hlt2)⟩
          obtain ⟨z, hz⟩ : ∃ y, q[j]? = some y := ⟨_, List.getElem?_eq_getElem (by rw [HRL.out.2]; exact hlt2)⟩
          have hyb := HRM.out.1 y (List.mem_of_getElem? hy)
          have hzb := HRM.out.2 z (List.mem_of_getElem? hz)
          have hrq : r.length = q.length := by rw [HRL.out.1, HRL.out.2]
          have hgy := addTo_get hrq hy
          have hgs := addTo_succ hrq hy hz
          have hO := HGr.out.inn.own (.slice (some ⟨g, 0, none⟩) s c, addTo r q j) (by simp)
          obtain ⟨e0, e1, _, _⟩ := hO.at1 (map_get hgy)
          obtain ⟨b5, o5, hab5, hbs5, f0⟩ := (HTQ.out _ HW.out).one (Below.refl _ _) (map_get hz)
          subst hab5
          have hG6 := HGr.out.set hgy (y + z)
          rw [hgs] at hG6
          have HG6 := Lib.hid hG6
          have HW6 := Lib.hid (HW.out.setCell (p := ⟨g, j, none⟩) (Nat.le_trans HW1.out hgb) (.int .i64 (y + z)))
          have J1 := Lib.hid (blk_else (a := ⟨g, j, none⟩) (v := .int .i64 (y + z)) K1.out (by show X ≠ g; have := HXB.out; omega))
          have J2 := Lib.hid (blk_else (a := ⟨g, j, none⟩) (v := .int .i64 (y + z)) K2.out (by show X + 1 ≠ g; have := HXB.out; omega))
          have J3 := Lib.hid (blk_else (a := ⟨g, j, none⟩) (v := .int .i64 (y + z)) K3.out (by show X + 2 ≠ g; have := HXB.out; omega))
          have hq0 : (wr.setCell ⟨g, j, none⟩ (.int .i64 (y + z))).cell? ⟨g, j, none⟩ = some (.int .i64 (y + z)) := by
            have h := (hO.set1 (map_get hgy) (.int .i64 (y + z))).at1 (i := j) (u := .int .i64 (y + z)) (by rw [List.getElem?_set, if_pos rfl, if_pos (by rw [List.length_map]; exact (List.getElem?_eq_some_iff.1 hgy).1)])
            exact h.1
          have HYZ := Lib.hid (And.intro hy hz)
          have hyl := hyb.1
          have hyh := hyb.2
          have hzl := hzb.1
          have hzh := hzb.2
          clear hy hz hyb hzb hrq hgy hgs hO hG6
          by_cases hbig : y + z ≤ 1000000000000
          · have hof := fun W => HO2.out (y + z) W
            rw [outB_in (by omega) hbig] at hof
            have HOF := Lib.hid hof
            have HM2 : Hid (∀ m, m < j + 1 → ∀ y z, r[m]? = some y → q[m]? = some z → y + z ≤ 1000000000000) := Lib.hid (fun m hm y' z' hy' hz' => by
              by_cases hmj : m = j
              · subst hmj
                rw [HYZ.out.1, Option.some.injEq] at hy'
                rw [HYZ.out.2, Option.some.injEq] at hz'
                subst hy' hz'
                exact hbig
              · exact HM.out m (by omega) y' z' hy' hz')
            clear hof hbig
            go_wp2_with fail
            refine (HOF.out _).mono ?_
            rintro e w7 ⟨rfl, hw7⟩
            rw [hw7]
            clear hw7 HOF
            go_wp2_with fail
            go_roundg (s - (j + 1))
            case measure => have := HJ2.out; omega
            case rel => exact ⟨j + 1, by omega, by go_num, HM2, HG6, J1, J2, J3, HW6⟩
          · have hof := fun W => HO2.out (y + z) W
            rw [outB_big (by omega)] at hof
            have HOF := Lib.hid hof
            obtain rfl : E = 2 := by
              rw [← HEE.out]
              exact tooE_yes (joinR_get HRK.out.1 HRK.out.2) (List.mem_of_getElem? (addL_get HYZ.out.1 HYZ.out.2)) (outB_big (by omega))
            have hz := zero_two J3.out 0 (.slice none 0 0)
            have hbz := below_two HW6.out (b := X + 2) (by rw [← HX.out]; omega) (.int .i64 0) (.slice none 0 0)
            obtain ⟨⟨z0, z1⟩, f0, f1⟩ := two_cells J3.out
            have HBZ := Lib.hid hbz
            have HZ := Lib.hid hz
            clear hof hbig hbz hz
            go_wp2_with fail
            refine (HOF.out _).mono ?_
            rintro e w7 ⟨rfl, hw7⟩
            rw [hw7]
            clear hw7 HOF
            go_wp2_with fail
            obtain ⟨y0, y1⟩ := HZ.out
            generalize (((wr.setCell { block := g, off := j } (Value.int IntKind.i64 (y + z))).setCell { block := X + 2, off := 0 } (Value.int IntKind.i64 0)).setCell { block := X + 2, off := 1 } (Value.slice none 0 0)) = w8 at *
            clear z0 z1 f0 f1 e0 e1 hq0
            try simp only [Exit.inBlock, Exit.then]
            refine bodyPost_ret (by simp [results, Try.results19, go_sem, y0, y1, Result.andThen]; try rfl) rfl ?_
            exact ⟨0, none, 0, 0, [], rfl, Or.inr ⟨by decide, rfl, rfl⟩, TTx.nil _ _, HBZ.out⟩
        · obtain rfl : j = s := by omega
          have hrq : r.length = q.length := by rw [HRL.out.1, HRL.out.2]
          have haa : addTo r q j = addL r q := by
            have h := addTo_all hrq
            rw [HRL.out.2] at h
            exact h
          rw [haa] at HGr
          have HN2 : Hid (∀ m, m < k + 1 → ∀ r q, R[m]? = some r → Q[m]? = some q → ∀ x ∈ addL r q, outB x = false) := Lib.hid (fun m hm r' q' hr' hq' x hx => by
            by_cases hmk : m = k
            · subst hmk
              rw [HRK.out.1, Option.some.injEq] at hr'
              rw [HRK.out.2, Option.some.injEq] at hq'
              subst hr' hq'
              obtain ⟨i, hi⟩ := List.getElem?_of_mem hx
              have hil := (List.getElem?_eq_some_iff.1 hi).1
              rw [addL_len hrq, HRL.out.1] at hil
              have e1 : r[i]? = some (r[i]'(by rw [HRL.out.1]; exact hil)) := List.getElem?_eq_getElem _
              have e2 : q[i]? = some (q[i]'(by rw [HRL.out.2]; exact hil)) := List.getElem?_eq_getElem _
              rw [addL_get e1 e2, Option.some.injEq] at hi
              have k1 := HM.out i hil _ _ e1 e2
              have k2 := HRM.out.1 _ (List.mem_of_getElem? e1)
              have k3 := HRM.out.2 _ (List.mem_of_getElem? e2)
              rw [← hi]
              exact outB_in (by omega) k1
            · exact HN.out m (by omega) r' q' hr' hq' x hx)
          have HLN : Hid ((A ++ (Value.slice (some ⟨g, 0, none⟩) j c, addL r q) :: C).map (fun p => p.2) = joinTo R Q (k + 1)) := Lib.hid (by
            have hRQ : R.length = Q.length := by rw [HL.out.1, HL.out.2]
            rw [List.map_append, List.map_cons, ← HAC.out.1, ← HAC.out.2, List.map_take, List.map_drop, HLR.out, joinTo_succ HRK.out.1 HRK.out.2]
            have e1 : (joinR R Q).take k = (joinTo R Q k).take k := by
              unfold joinTo
              rw [List.take_append_of_le_length (by rw [List.length_take, joinR_len hRQ, HL.out.1]; omega), List.take_take, Nat.min_self]
            have e2 : (joinTo R Q k).drop (k + 1) = R.drop (k + 1) := by
              rw [joinTo_split HRK.out.1, List.drop_append, List.length_take, joinR_len hRQ, HL.out.1, show min k len = k from by omega, List.drop_of_length_le (by rw [List.length_take]; omega), show k + 1 - k = 1 from by omega]
              rfl
            rw [e2, ← e1])
          clear haa hrq
          go_wp2_with fail
          go_roundg (len - (k + 1))
          case measure => have := HJ.out; omega
          case rel => exact ⟨k + 1, _, by omega, by go_num, HLN, HN2, HGr, K1, K2, K3, HW⟩
    · obtain rfl : k = len := by omega
      have hRQ : R.length = Q.length := by rw [HL.out.1, HL.out.2]
      have hall : tooE (joinR R Q) = 0 := tooE_no (fun t ht x hx => by
        obtain ⟨i, hi⟩ := List.getElem?_of_mem ht
        have hil := (List.getElem?_eq_some_iff.1 hi).1
        rw [joinR_len hRQ, HL.out.1] at hil
        have e1 : R[i]? = some (R[i]'(by rw [HL.out.1]; exact hil)) := List.getElem?_eq_getElem _
        have e2 : Q[i]? = some (Q[i]'(by rw [HL.out.2]; exact hil)) := List.getElem?_eq_getElem _
        rw [joinR_get e1 e2, Option.some.injEq] at hi
        subst hi
        exact HN.out i hil _ _ e1 e2 x hx)
      have hgz := (HGr.out.setCell (a := ⟨X + 2, 0, none⟩) HXB.out (.int .i64 s)).setCell (a := ⟨X + 2, 1, none⟩) HXB.out (.slice (some ⟨g0, 0, none⟩) k c0)
      have hll : l.length = k := by have h := HGr.out.out.tab_of.hlen; rw [List.length_map] at h; exact h
      obtain ⟨a', c', hav, htt⟩ := hgz.tt
      simp only [Value.slice.injEq] at hav
      obtain ⟨rfl, h2, rfl⟩ := hav
      rw [hll, HLR.out] at htt
      have hjl : joinTo R Q k = joinR R Q := by
        have h := joinTo_all hRQ
        rw [HL.out.1] at h
        exact h
      rw [hjl] at htt
      have HTT := Lib.hid (htt.weak (Q := fun b => w.heap.size ≤ b) (fun b hb => Nat.le_trans HW1.out hb))
      obtain rfl : E = 0 := by rw [← HEE.out]; exact hall
      have hz := zero_two K3.out s (.slice (some ⟨g0, 0, none⟩) k c0)
      have hbz := below_two HW.out (b := X + 2) (by rw [← HX.out]; omega) (.int .i64 s) (.slice (some ⟨g0, 0, none⟩) k c0)
      obtain ⟨⟨z0, z1⟩, f0, f1⟩ := two_cells K3.out
      obtain ⟨⟨b0, b1⟩, _⟩ := two_cells K1.out
      have HBZ := Lib.hid hbz
      have HZ := Lib.hid hz
      clear hbz hz htt h2 hll hgz hall hjl hRQ
      go_wp2_with fail
      obtain ⟨y0, y1⟩ := HZ.out
      generalize ((wr.setCell { block := X + 2, off := 0 } (Value.int IntKind.i64 s)).setCell { block := X + 2, off := 1 } (Value.slice (some { block := g0, off := 0 }) k c0)) = w8 at *
      clear z0 z1 f0 f1 b0 b1
      try simp only [Exit.inBlock, Exit.then]
      refine bodyPost_ret (by simp [results, Try.results19, go_sem, y0, y1, Result.andThen]; try rfl) rfl ?_
      first
      | exact ⟨s, _, k, c0, rfl, _, ⟨rfl, rfl⟩, HTT.out, HBZ.out⟩
      | exact ⟨s, _, k, c0, _, rfl, Or.inl ⟨rfl, rfl, rfl⟩, HTT.out, HBZ.out⟩
end Go.Proofs.Ytcfejbhoeichnaa
