/- The contract of the document's own sums of a sketch with other counts (culref.Tables), for closures with three captured variables and with one. -/
import Derived.Test.YtcfejbhoeichnaaTabRows
import Derived.Test.YtcfejbhoeichnaaTabRef
import Derived.Test.YtcfejbhoeichnaaTabSums
namespace Go.Proofs.Ytcfejbhoeichnaa
open Go.ChangeShapes Go.WideShapes Go.ChangeAt Go.RowKit
open Tbl

namespace Tbl
/-- each counter with another one -/
def tabF (M : Nat → Nat → Int) (R : List (List Int)) : List (List Int) := R.mapIdx (fun i r => r.mapIdx (fun k x => x + M i k))
theorem tabF_get {M : Nat → Nat → Int} {R : List (List Int)} {i : Nat} {r : List Int} (h : R[i]? = some r) : (tabF M R)[i]? = some (r.mapIdx (fun k x => x + M i k)) := by
  unfold tabF
  rw [List.getElem?_mapIdx, h]; rfl
theorem tabF_len (M : Nat → Nat → Int) (R : List (List Int)) : (tabF M R).length = R.length := by simp [tabF]
theorem rowF_get {m : Nat → Int} {r : List Int} {k : Nat} {x : Int} (h : r[k]? = some x) : (r.mapIdx (fun k x => x + m k))[k]? = some (x + m k) := by rw [List.getElem?_mapIdx, h]; rfl
theorem tabF_put {s : Nat} {x n : Int} {R : List (List Int)} : tabF (fun i k => if (k : Int) = (colN s x i : Nat) then n else 0) R = putR s x n R := by
  apply List.ext_getElem?
  intro i
  cases hr : R[i]? with
  | none =>
    have h := List.getElem?_eq_none_iff.1 hr
    rw [List.getElem?_eq_none (by rw [tabF_len]; exact h), List.getElem?_eq_none (by rw [putR_len]; exact h)]
  | some r =>
    rw [tabF_get hr, putR_get hr]
    refine congrArg some ?_
    obtain ⟨q, hq⟩ : ∃ q, colN s x i = q := ⟨_, rfl⟩
    rw [hq]
    apply List.ext_getElem?
    intro j
    rw [List.getElem?_mapIdx, List.getElem?_modify]
    cases hj : r[j]? with
    | none => rfl
    | some y =>
      show some (y + if (j : Int) = (q : Nat) then n else 0) = some (if q = j then y + n else y)
      refine congrArg some ?_
      by_cases h : q = j
      · rw [if_pos h, if_pos (by rw [h])]
      · rw [if_neg h, if_neg (by omega), Int.add_zero]
theorem tabF_join {s : Nat} {R Q : List (List Int)} (hR : ∀ r ∈ R, r.length = s) (hQ : ∀ r ∈ Q, r.length = s) (hl : R.length = Q.length) : tabF (fun i k => ((Q[i]?).getD []).getD k 0) R = joinR R Q := by
  apply List.ext_getElem?
  intro i
  cases hr : R[i]? with
  | none =>
    have h := List.getElem?_eq_none_iff.1 hr
    rw [List.getElem?_eq_none (by rw [tabF_len]; exact h), List.getElem?_eq_none (by rw [joinR_len hl]; exact h)]
  | some r =>
    have hi := (List.getElem?_eq_some_iff.1 hr).1
    obtain ⟨q, hq⟩ : ∃ q, Q[i]? = some q := ⟨_, List.getElem?_eq_getElem (by omega)⟩
    have l1 := hR r (List.mem_of_getElem? hr)
    have l2 := hQ q (List.mem_of_getElem? hq)
    rw [tabF_get hr, joinR_get hr hq]
    refine congrArg some ?_
    apply List.ext_getElem?
    intro j
    rw [List.getElem?_mapIdx]
    cases hj : r[j]? with
    | none =>
      have h := List.getElem?_eq_none_iff.1 hj
      rw [show (addL r q)[j]? = none from List.getElem?_eq_none (by rw [addL_len (by omega)]; exact h)]; rfl
    | some y =>
      have hjl := (List.getElem?_eq_some_iff.1 hj).1
      obtain ⟨z, hz⟩ : ∃ z, q[j]? = some z := ⟨_, List.getElem?_eq_getElem (by omega)⟩
      rw [addL_get hj hz, Option.map_some]
      refine congrArg some ?_
      rw [hq, Option.getD_some, List.getD_eq_getElem?_getD, hz]; rfl
theorem own_spotT {w : World} {base : Nat} {e : TypeId} {v : Value} {L : List Int} (h : Own w base e 1 v (L.map iC)) (hl : 0 < L.length) : ∃ g cap, v = .slice (some ⟨g, 0, none⟩) L.length cap ∧ base ≤ g ∧ g < w.heap.size := by
  rcases h.own.2 with ⟨_, h0'⟩ | ⟨g', cap', cur, h0, hg, hc, _⟩
  · rw [List.length_map] at h0'; omega
  · rw [List.length_map] at h0
    exact ⟨g', cap', h0, hg, (Array.getElem?_eq_some_iff.1 hc).1⟩
theorem own_shape {w : World} {base : Nat} {e : TypeId} {v : Value} {R : List (List Value)} (h : Own w base e 1 v R) (hl : 0 < R.length) : ∃ g cap, v = .slice (some ⟨g, 0, none⟩) R.length cap := by
  rcases h.own.2 with ⟨_, h0'⟩ | ⟨g', cap', cur, h0, _⟩
  · omega
  · exact ⟨g', cap', h0⟩
theorem count_out (n : Int) : (decide (0 ≤ n) && decide (n ≤ 1000000000000)) = !(outB n) := by
  rw [← outB_not, Bool.not_not]
end Tbl

set_option maxRecDepth 100000 in
set_option maxHeartbeats 6000000 in
theorem tables3_any (F : Nat) (c1 c2 c3 : Option Addr) (M : Nat → Nat → Int) (s : Nat) (a : Option Addr) (len cap : Nat) (R : List (List Int)) (P : Nat → Prop) (w : World) (hT : TTx w P a len cap R) (hG : GoodT s R)
    (hrun : ∀ (i k : Int) (W : World), (callFunc F #[.int .i64 i, .int .i64 k, .pointer c1, .pointer c2, .pointer c3]).run Try.prog W = .ok (.enter F #[.int .i64 i, .int .i64 k, .pointer c1, .pointer c2, .pointer c3]) W)
    (hF : ∀ i k : Nat, i < len → k < s → ∀ W : World, Below w.heap.size w W → Calls Try.prog F #[.int .i64 i, .int .i64 k, .pointer c1, .pointer c2, .pointer c3] W fun e w' => e = .returned (.int .i64 (M i k)) ∧ Below W.heap.size W w')
    (hM : ∀ i k : Nat, i < len → k < s → 0 ≤ M i k ∧ M i k ≤ 1000000000000) :
    Calls Try.prog 25 #[.agg #[.int .i64 s, .slice a len cap], .func (.func F) #[] #[.pointer c1, .pointer c2, .pointer c3]] w fun e w' => ∃ (S : Int) (a' : Option Addr) (l' c' : Nat) (R' : List (List Int)), e = .returned (.tuple #[.agg #[.int .i64 S, .slice a' l' c'], .int .i64 (tooE (tabF M R))]) ∧ (tooE (tabF M R) = 0 ∧ S = s ∧ R' = tabF M R ∨ tooE (tabF M R) ≠ 0 ∧ S = 0 ∧ R' = []) ∧ TTx w' anyB a' l' c' R' ∧ Below w.heap.size w w' := by
  have hl := hT.len
  have hmx := hT.max
  have s1 := hG.s1
  have s2 := hG.s2
  have h4 : len ≤ 4 := by rw [← hl]; exact hG.n2
  obtain ⟨E, hEE⟩ : ∃ E, tooE (tabF M R) = E := ⟨_, rfl⟩
  rw [hEE]
  have HEE := Lib.hid hEE
  have sz1 : (w.alloc (.cells #[.int .i64 s, .slice a len cap] 39)).heap.size = w.heap.size + 1 := by simp
  have hb0 : Below w.heap.size w ((w.alloc (.cells #[.int .i64 s, .slice a len cap] 39)).alloc (.cells #[.int .i64 0, .slice none 0 0] 39)) := ((Below.refl _ _).alloc (Nat.le_refl _) _).alloc (by simp) _
  have k1 : ((w.alloc (.cells #[.int .i64 s, .slice a len cap] 39)).alloc (.cells #[.int .i64 0, .slice none 0 0] 39)).heap[w.heap.size]? = some (.cells #[.int .i64 s, .slice a len cap] 39 (0, 0)) := (boxes_new _ _ _).trans (MapKept.heap_alloc w _).1
  have k2 : ((w.alloc (.cells #[.int .i64 s, .slice a len cap] 39)).alloc (.cells #[.int .i64 0, .slice none 0 0] 39)).heap[w.heap.size + 1]? = some (.cells #[.int .i64 0, .slice none 0 0] 39 (0, 0)) := (boxes_snd _ _ _).trans (MapKept.heap_alloc _ _).1
  have sz2 : ((w.alloc (.cells #[.int .i64 s, .slice a len cap] 39)).alloc (.cells #[.int .i64 0, .slice none 0 0] 39)).heap.size = w.heap.size + 2 := by simp
  obtain ⟨v0, hv0⟩ : ∃ v, ((w.alloc (.cells #[.int .i64 s, .slice a len cap] 39)).alloc (.cells #[.int .i64 0, .slice none 0 0] 39)) = v := ⟨_, rfl⟩
  rw [hv0] at hb0 k1 k2 sz2
  have hal : Below v0.heap.size v0 (v0.alloc (.cells #[.int .i64 s, .slice none 0 0] 39)) := (Below.refl _ _).alloc (Nat.le_refl _) _
  have k3 := (MapKept.heap_alloc v0 (.cells #[.int .i64 s, .slice none 0 0] 39)).1
  obtain ⟨v1, hv1⟩ : ∃ v, v0.alloc (.cells #[.int .i64 s, .slice none 0 0] 39) = v := ⟨_, rfl⟩
  rw [hv1] at hal k3
  rw [sz2] at k3
  have HV := Lib.hid hv0
  have HV1 := Lib.hid hv1
  have HSZ := Lib.hid sz2
  have HB1 := Lib.hid (below_on hb0 hal)
  have K0 := Lib.hid k1
  have K1 := Lib.hid (kept hal k1)
  have K2 := Lib.hid (kept hal k2)
  have K3 := Lib.hid k3
  have HT := Lib.hid hT
  have HG := Lib.hid hG
  have HL := Lib.hid hl
  have HF := Lib.hid hF
  have HMM := Lib.hid hM
  have HCo := Lib.hid (fun n W => count_ref n W)
  clear hT hv0 hb0 k1 k2 k3 hl hG hEE hal hv1 sz1 sz2 hF hM
  go_enter Try.func25, Try.ntmps25
  go_upto_region 1 with fail
  rw [HV.out]
  obtain ⟨X, hX⟩ : ∃ X, w.heap.size = X := ⟨_, rfl⟩
  have HX := Lib.hid hX
  rw [hX] at K0 K1 K2 K3 HSZ ⊢
  obtain ⟨⟨a0, a1⟩, _⟩ := two_cells K0.out
  go_upto_region 2 with fail
  rw [HV1.out, HSZ.out]
  clear HV HV1 hX a0 a1 K0
  obtain ⟨⟨a0, a1⟩, _⟩ := two_cells K1.out
  go_wp2_with fail
  clear a0 a1
  go_loopg [18] len (fun g iv wr => ∃ (i : Nat) (v : Value) (l : List (Value × List Int)), i + g = len ∧ iv = .int .i64 i ∧ Hid (l.map (fun p => p.2) = (tabF M R).take i) ∧ Hid (∀ j, j < i → ∀ q, (tabF M R)[j]? = some q → ∀ x ∈ q, outB x = false) ∧ Hid (Grid wr (X + 3) v l) ∧ Hid (wr.heap[X]? = some (.cells #[.int .i64 s, .slice a len cap] 39 (0, 0))) ∧ Hid (wr.heap[X + 1]? = some (.cells #[.int .i64 0, .slice none 0 0] 39 (0, 0))) ∧ Hid (wr.heap[X + 2]? = some (.cells #[.int .i64 s, v] 39 (0, 0))) ∧ Hid (Below w.heap.size w wr))
  case atStart => exact ⟨0, _, [], by omega, rfl, Lib.hid rfl, Lib.hid (fun j hj => by omega), Lib.hid (Grid.nil _ _), K1, K2, K3, HB1⟩
  case round =>
    clear K1 K2 K3 HB1
    obtain ⟨i, v, l, hi0, rfl, HLR, HN, HGr, K1, K2, K3, HW⟩ := hrel
    have HJ := Lib.hid hi0
    have hi : i ≤ len := by omega
    clear hi0
    have hll : l.length = i := by
      have h := congrArg List.length HLR.out
      rw [List.length_map, List.length_take, tabF_len, HL.out] at h
      omega
    have HLL := Lib.hid hll
    clear hll
    have hXs : X + 2 < wr.heap.size := (Array.getElem?_eq_some_iff.1 K3.out).1
    by_cases hlt : i < len
    · obtain ⟨r, hr⟩ : ∃ r, R[i]? = some r := ⟨_, List.getElem?_eq_getElem (by rw [HL.out]; exact hlt)⟩
      have hrm := List.mem_of_getElem? hr
      have hrl := HG.out.len r hrm
      have hrc := HG.out.cnt r hrm
      have htf := tabF_get (M := M) hr
      obtain ⟨b1, o1, qa, qn, qc, ha, hbs, c0, hTq, hqn, hqc, hqm⟩ := HT.out.row HW.out hr
      obtain rfl : qn = s := by rw [← hqn, hrl]
      obtain ⟨q, hq⟩ : ∃ q, r.mapIdx (fun k x => x + M i k) = q := ⟨_, rfl⟩
      have hqg : ∀ (k : Nat) (x : Int), r[k]? = some x → q[k]? = some (x + M i k) := fun k x h => by rw [← hq]; exact rowF_get h
      have hql : q.length = qn := by rw [← hq, List.length_mapIdx, hrl]
      rw [hq] at htf
      have HTF := Lib.hid htf
      have HQG := Lib.hid hqg
      have HQL := Lib.hid hql
      have HRL := Lib.hid hrl
      have HRC := Lib.hid hrc
      have HTQ := Lib.hid hTq
      obtain ⟨wo, hwo⟩ : ∃ wo, wo = wr := ⟨_, rfl⟩
      subst hwo
      subst ha
      clear hr hrm hrl hrc htf hTq hqn hq hqg hql
      go_wp2_with fail
      clear c0
      go_loopg [9, 25] qn (fun g u0 kv wr => ∃ (k : Nat) (uu : Value), k + g = qn ∧ kv = .int .i64 k ∧ uu = u0 ∧ Hid (∀ j, j < k → ∀ x, q[j]? = some x → outB x = false) ∧ Hid (Own wr wo.heap.size 3 1 uu ((q.take k).map iC)) ∧ Hid (Below wo.heap.size wo wr))
      case atStart => exact ⟨0, _, by omega, rfl, rfl, Lib.hid (fun j hj => by omega), Lib.hid (Own.nil _ _ _ _), Lib.hid (Below.refl _ _)⟩
      case round =>
        obtain ⟨k, uu, hk0, rfl, rfl, HNk, HU, HWk⟩ := hrel
        have HJ2 := Lib.hid hk0
        have hk : k ≤ qn := by omega
        clear hk0
        by_cases hlt2 : k < qn
        · obtain ⟨wk, hwk⟩ : ∃ wk, wk = wr := ⟨_, rfl⟩
          subst hwk
          obtain ⟨y, hy⟩ : ∃ y, r[k]? = some y := ⟨_, List.getElem?_eq_getElem (by rw [HRL.out]; exact hlt2)⟩
          have hyb := HRC.out y (List.mem_of_getElem? hy)
          have hyg := HQG.out k y hy
          have hmb := HMM.out i k hlt hlt2
          obtain ⟨b2, o2, ha2, hbs2, c0⟩ := HTQ.out.one HWk.out (map_get hy)
          have HFk := HF.out i k hlt hlt2 wk (below_on HW.out HWk.out)
          obtain ⟨d, hd⟩ : ∃ d, M i k = d := ⟨_, rfl⟩
          rw [hd] at hyg hmb HFk
          replace HFk := Lib.hid HFk
          have y1 := hyb.1
          have y2 := hyb.2
          have d1 := hmb.1
          have d2 := hmb.2
          have htk : (q.take k).map iC ++ [iC (y + d)] = (q.take (k + 1)).map iC := by rw [List.take_add_one, hyg, List.map_append]; rfl
          have hkl : (q.take (k + 1)).length = k + 1 := by rw [List.length_take, HQL.out]; omega
          have HYG := Lib.hid hyg
          have HTK := Lib.hid htk
          have HKL := Lib.hid hkl
          have HUL : Hid (((q.take k).map iC).length = k) := Lib.hid (by rw [List.length_map, List.length_take, HQL.out]; omega)
          have hrn := hrun (i : Int) (k : Int)
          subst ha2
          clear hy hyb hyg hmb hd htk hkl
          go_wp2_with fail
          refine HFk.out.mono ?_
          rintro e w5 ⟨rfl, hb5⟩
          have HU5 := Lib.hid (HU.out.below hb5)
          have HW5 := Lib.hid (below_on HWk.out hb5)
          clear hb5 c0 hrn HFk
          go_wp2_with ((at_builtin; refine wpList_append_rows _ rfl _ _ 34 rfl wo.heap.size 3 _ 1 8 Try.underlying34 info_int rfl (by decide) uu ((q.take k).map iC) rfl (HU5.out.alloc _) ⟨w5.heap.size, 0, none⟩ 1 1 [iC (y + d)] rfl rfl (by simp [iC]) (one_row _ (iC (y + d)) 3 _ (by simp)) (by simp [iC, Value.oneCell']) (by rw [HUL.out]; omega) (by decide) (by have := HW5.out.size; simp; omega) ?_; intro v6 w6 hO6 hg6; have HW6 := Lib.hid ((HU5.out.alloc (.cells #[.int .i64 (y + d)] 3)).under (HW5.out.alloc HW5.out.size (.cells #[.int .i64 (y + d)] 3)) (Nat.le_refl _) (by have := HW5.out.size; simp; omega) hg6); rw [HTK.out] at hO6; obtain ⟨g6, c6, rfl, hgB, hgS⟩ := own_spotT hO6 (by rw [HKL.out]; omega); rw [HKL.out] at hO6 ⊢; have hcl6 := (hO6.at1 (i := k) (u := .int .i64 (y + d)) (map_get (by rw [List.getElem?_take, if_pos (Nat.lt_succ_self k)]; exact HYG.out))).1; have HO6 := Lib.hid hO6; clear hO6 hg6))
          refine (HCo.out _ _).mono ?_
          rw [count_out]
          rintro e w7 ⟨rfl, hw7⟩
          rw [← hw7]
          clear hw7
          cases hob : outB (y + d)
          · have HN6 : Hid (∀ j, j < k + 1 → ∀ x, q[j]? = some x → outB x = false) := Lib.hid (fun j hj x hx => by
              by_cases hjk : j = k
              · subst hjk
                rw [HYG.out, Option.some.injEq] at hx
                rw [← hx]; exact hob
              · exact HNk.out j (by omega) x hx)
            clear hob hcl6
            go_wp2_with fail
            go_roundg (qn - (k + 1))
            case measure => have := HJ2.out; omega
            case rel => exact ⟨k + 1, _, by omega, by go_num, rfl, HN6, HO6, HW6⟩
          · obtain rfl : E = 2 := by
              rw [← HEE.out]
              exact tooE_yes HTF.out (List.mem_of_getElem? HYG.out) hob
            have HWZ := Lib.hid (below_on HW.out HW6.out)
            have J2 := Lib.hid (kept HW6.out K2.out)
            have hz := zero_two J2.out 0 (.slice none 0 0)
            have hbz := below_two HWZ.out (b := X + 1) (by rw [← HX.out]; omega) (.int .i64 0) (.slice none 0 0)
            obtain ⟨⟨z0, z1⟩, f0, f1⟩ := two_cells J2.out
            have HBZ := Lib.hid hbz
            have HZ := Lib.hid hz
            clear hob hbz hz hcl6
            go_wp2_with fail
            obtain ⟨y0, y1⟩ := HZ.out
            generalize ((w6.setCell { block := X + 1, off := 0 } (Value.int IntKind.i64 0)).setCell { block := X + 1, off := 1 } (Value.slice none 0 0)) = w8 at *
            clear z0 z1 f0 f1
            try simp only [Exit.inBlock, Exit.then]
            refine bodyPost_ret (by simp [results, Try.results25, go_sem, y0, y1, Result.andThen]; try rfl) rfl ?_
            exact ⟨0, none, 0, 0, [], rfl, Or.inr ⟨by decide, rfl, rfl⟩, TTx.nil _ _, HBZ.out⟩
        · obtain rfl : k = qn := by omega
          have hU := HU.out
          rw [List.take_of_length_le (by rw [HQL.out]; exact Nat.le_refl _)] at hU
          obtain ⟨G, c, rfl, hGB, hGS⟩ := own_spotT hU (by rw [HQL.out]; omega)
          rw [HQL.out] at hU ⊢
          have J1 := Lib.hid (kept HWk.out K1.out)
          have J2 := Lib.hid (kept HWk.out K2.out)
          have J3 := Lib.hid (kept HWk.out K3.out)
          have HGk := Lib.hid (HGr.out.below HWk.out)
          have hal : Below wo.heap.size wo (wr.alloc (.cells #[.slice (some ⟨G, 0, none⟩) k c] 34)) := HWk.out.alloc HWk.out.size _
          have HAL := Lib.hid hal
          have HUa := Lib.hid ((hU.alloc (.cells #[.slice (some ⟨G, 0, none⟩) k c] 34)).base_le (show X + 3 ≤ wo.heap.size by omega))
          have HGG := Lib.hid (And.intro hGB hGS)
          have HLM : Hid ((l.map (fun p => [p.1])).length = i) := Lib.hid (by rw [List.length_map]; exact HLL.out)
          have HNN : Hid (∀ j, j < i + 1 → ∀ q, (tabF M R)[j]? = some q → ∀ x ∈ q, outB x = false) := Lib.hid (fun j hj q' hq' x hx => by
            by_cases hji : j = i
            · subst hji
              rw [HTF.out, Option.some.injEq] at hq'
              subst hq'
              obtain ⟨m, hm⟩ := List.getElem?_of_mem hx
              exact HNk.out m (by have := (List.getElem?_eq_some_iff.1 hm).1; rw [HQL.out] at this; exact this) x hm
            · exact HN.out j (by omega) q' hq' x hx)
          have hXw : X + 2 < wr.heap.size := (Array.getElem?_eq_some_iff.1 J3.out).1
          have HXW := Lib.hid hXw
          obtain ⟨⟨e0, e1⟩, _⟩ := two_cells J3.out
          obtain ⟨wk, hwk⟩ : ∃ wk, wk = wr := ⟨_, rfl⟩
          subst hwk
          clear hU hal HU HNk hGB hGS hXw
          go_wp2_with ((at_builtin; refine wpList_append_rows_at _ rfl _ _ 37 rfl (X + 3) 34 _ 1 24 Try.underlying37 info_slints rfl (by decide) v (l.map (fun p => [p.1])) rfl (HGk.out.out.alloc _) ⟨wk.heap.size, 0, none⟩ 1 1 [[.slice (some ⟨G, 0, none⟩) k c]] rfl rfl (by simp) (one_row _ [.slice (some ⟨G, 0, none⟩) k c] 34 _ (by simp)) (by simp [Value.oneCell']) (by rw [HLM.out]; omega) (by decide) (by have := HXW.out; simp; omega) ?_; intro v6 w6 hO6 hg6 hat6; obtain ⟨g6, c6, rfl⟩ := own_shape hO6 (by simp); rw [show (l.map (fun p => [p.1]) ++ [[Value.slice (some ⟨G, 0, none⟩) k c]]).length = i + 1 from by rw [List.length_append, HLM.out]; rfl] at hO6 hat6 ⊢; have hy6 := Lib.hid ((hg6.block (X + 2) (by have := HXW.out; simp; omega) (fun e => by have := (HGk.out.out.own.lt (X + 2) e.symm).1; omega)).trans ((Below.heap_alloc wk (.cells #[.slice (some ⟨G, 0, none⟩) k c] 34) (X + 2) HXW.out).trans J3.out)); obtain ⟨⟨p0, p1⟩, p2, p3⟩ := two_cells hy6.out))
          have hx6 := (hg6.block X (by have := HXW.out; simp; omega) (fun e => by have := (HGk.out.out.own.lt X e.symm).1; omega)).trans ((Below.heap_alloc wk (.cells #[.slice (some ⟨G, 0, none⟩) k c] 34) X (by have := HXW.out; omega)).trans J1.out)
          have hz6 := (hg6.block (X + 1) (by have := HXW.out; simp; omega) (fun e => by have := (HGk.out.out.own.lt (X + 1) e.symm).1; omega)).trans ((Below.heap_alloc wk (.cells #[.slice (some ⟨G, 0, none⟩) k c] 34) (X + 1) (by have := HXW.out; omega)).trans J2.out)
          have hP := HGr.out.push HUa.out HAL.out HGG.out.1 (by have := HGG.out.2; simp; omega) hO6 hg6 (by
            rcases hat6 with h | h
            · exact Or.inl h.symm
            · right
              have : g6 = (wk.alloc (.cells #[.slice (some ⟨G, 0, none⟩) k c] 34)).heap.size := by simpa [Value.ownBlock] using h
              exact this)
          have hu6 := (HGr.out.out.below HAL.out).under (below_on HW.out HAL.out) (by have := HXW.out; rw [HX.out]; omega) (by have h1 := HW.out.size; have h2 := HAL.out.size; omega) hg6
          have HP := Lib.hid (hP.setCell (a := ⟨X + 2, 1, none⟩) (by show X + 2 < X + 3; omega) (.slice (some ⟨g6, 0, none⟩) (i + 1) c6))
          have HU6 := Lib.hid (hu6.setCell (p := ⟨X + 2, 1, none⟩) (by rw [HX.out]; show X ≤ X + 2; omega) (.slice (some ⟨g6, 0, none⟩) (i + 1) c6))
          have HX6 := Lib.hid (blk_else (a := ⟨X + 2, 1, none⟩) (v := .slice (some ⟨g6, 0, none⟩) (i + 1) c6) hx6 (by show X ≠ X + 2; omega))
          have HZ6 := Lib.hid (blk_else (a := ⟨X + 2, 1, none⟩) (v := .slice (some ⟨g6, 0, none⟩) (i + 1) c6) hz6 (by show X + 1 ≠ X + 2; omega))
          have HY6 : Hid ((w6.setCell ⟨X + 2, 1, none⟩ (.slice (some ⟨g6, 0, none⟩) (i + 1) c6)).heap[X + 2]? = some (.cells #[.int .i64 k, .slice (some ⟨g6, 0, none⟩) (i + 1) c6] 39 (0, 0))) := Lib.hid (by rw [heap_setCell_same w6 (X + 2) 1 _ _ (.slice (some ⟨g6, 0, none⟩) (i + 1) c6) hy6.out]; rfl)
          clear hP hu6 hg6 hat6 hO6 hx6 hz6
          go_wp2_with fail
          go_roundg (len - (i + 1))
          case measure => have := HJ.out; omega
          case rel =>
            refine ⟨i + 1, _, _, by omega, by go_num, Lib.hid ?_, HNN, HP, HX6, HZ6, HY6, HU6⟩
            rw [List.map_append, HLR.out, List.take_add_one, HTF.out]; rfl
    · obtain rfl : i = len := by omega
      have hall : tooE (tabF M R) = 0 := tooE_no (fun q hq x hx => by
        obtain ⟨j, hj⟩ := List.getElem?_of_mem hq
        exact HN.out j (by have := (List.getElem?_eq_some_iff.1 hj).1; rw [tabF_len, HL.out] at this; exact this) q hj x hx)
      obtain rfl : E = 0 := by rw [← HEE.out]; exact hall
      have hgz := ((HGr.out.setCell (a := ⟨X + 1, 0, none⟩) (by show X + 1 < X + 3; omega) (.int .i64 s)).setCell (a := ⟨X + 1, 1, none⟩) (by show X + 1 < X + 3; omega) v)
      obtain ⟨a', c', hav, htt⟩ := hgz.tt
      rw [HLL.out, HLR.out, List.take_of_length_le (by rw [tabF_len, HL.out]; exact Nat.le_refl _)] at htt
      rw [HLL.out] at hav
      subst hav
      have HTT := Lib.hid htt.any
      have hz := zero_two K2.out s (.slice a' i c')
      have hbz := below_two HW.out (b := X + 1) (by rw [← HX.out]; omega) (.int .i64 s) (.slice a' i c')
      obtain ⟨⟨z0, z1⟩, f0, f1⟩ := two_cells K2.out
      obtain ⟨⟨b0, b1⟩, _⟩ := two_cells K3.out
      have HBZ := Lib.hid hbz
      have HZ := Lib.hid hz
      clear hbz hz htt hgz hall
      go_wp2_with fail
      obtain ⟨y0, y1⟩ := HZ.out
      generalize ((wr.setCell { block := X + 1, off := 0 } (Value.int IntKind.i64 s)).setCell { block := X + 1, off := 1 } (Value.slice a' i c')) = w8 at *
      clear z0 z1 f0 f1 b0 b1
      try simp only [Exit.inBlock, Exit.then]
      refine bodyPost_ret (by simp [results, Try.results25, go_sem, y0, y1, Result.andThen]; try rfl) rfl ?_
      first
      | exact ⟨s, _, i, c', rfl, _, ⟨rfl, rfl⟩, HTT.out, HBZ.out⟩
      | exact ⟨s, _, i, c', _, rfl, Or.inl ⟨rfl, rfl, rfl⟩, HTT.out, HBZ.out⟩

set_option maxRecDepth 100000 in
set_option maxHeartbeats 6000000 in
theorem tables1_any (F : Nat) (c1 : Option Addr) (M : Nat → Nat → Int) (s : Nat) (a : Option Addr) (len cap : Nat) (R : List (List Int)) (P : Nat → Prop) (w : World) (hT : TTx w P a len cap R) (hG : GoodT s R)
    (hrun : ∀ (i k : Int) (W : World), (callFunc F #[.int .i64 i, .int .i64 k, .pointer c1]).run Try.prog W = .ok (.enter F #[.int .i64 i, .int .i64 k, .pointer c1]) W)
    (hF : ∀ i k : Nat, i < len → k < s → ∀ W : World, Below w.heap.size w W → Calls Try.prog F #[.int .i64 i, .int .i64 k, .pointer c1] W fun e w' => e = .returned (.int .i64 (M i k)) ∧ Below W.heap.size W w')
    (hM : ∀ i k : Nat, i < len → k < s → 0 ≤ M i k ∧ M i k ≤ 1000000000000) :
    Calls Try.prog 25 #[.agg #[.int .i64 s, .slice a len cap], .func (.func F) #[] #[.pointer c1]] w fun e w' => ∃ (S : Int) (a' : Option Addr) (l' c' : Nat) (R' : List (List Int)), e = .returned (.tuple #[.agg #[.int .i64 S, .slice a' l' c'], .int .i64 (tooE (tabF M R))]) ∧ (tooE (tabF M R) = 0 ∧ S = s ∧ R' = tabF M R ∨ tooE (tabF M R) ≠ 0 ∧ S = 0 ∧ R' = []) ∧ TTx w' anyB a' l' c' R' ∧ Below w.heap.size w w' := by
  have hl := hT.len
  have hmx := hT.max
  have s1 := hG.s1
  have s2 := hG.s2
  have h4 : len ≤ 4 := by rw [← hl]; exact hG.n2
  obtain ⟨E, hEE⟩ : ∃ E, tooE (tabF M R) = E := ⟨_, rfl⟩
  rw [hEE]
  have HEE := Lib.hid hEE
  have sz1 : (w.alloc (.cells #[.int .i64 s, .slice a len cap] 39)).heap.size = w.heap.size + 1 := by simp
  have hb0 : Below w.heap.size w ((w.alloc (.cells #[.int .i64 s, .slice a len cap] 39)).alloc (.cells #[.int .i64 0, .slice none 0 0] 39)) := ((Below.refl _ _).alloc (Nat.le_refl _) _).alloc (by simp) _
  have k1 : ((w.alloc (.cells #[.int .i64 s, .slice a len cap] 39)).alloc (.cells #[.int .i64 0, .slice none 0 0] 39)).heap[w.heap.size]? = some (.cells #[.int .i64 s, .slice a len cap] 39 (0, 0)) := (boxes_new _ _ _).trans (MapKept.heap_alloc w _).1
  have k2 : ((w.alloc (.cells #[.int .i64 s, .slice a len cap] 39)).alloc (.cells #[.int .i64 0, .slice none 0 0] 39)).heap[w.heap.size + 1]? = some (.cells #[.int .i64 0, .slice none 0 0] 39 (0, 0)) := (boxes_snd _ _ _).trans (MapKept.heap_alloc _ _).1
  have sz2 : ((w.alloc (.cells #[.int .i64 s, .slice a len cap] 39)).alloc (.cells #[.int .i64 0, .slice none 0 0] 39)).heap.size = w.heap.size + 2 := by simp
  obtain ⟨v0, hv0⟩ : ∃ v, ((w.alloc (.cells #[.int .i64 s, .slice a len cap] 39)).alloc (.cells #[.int .i64 0, .slice none 0 0] 39)) = v := ⟨_, rfl⟩
  rw [hv0] at hb0 k1 k2 sz2
  have hal : Below v0.heap.size v0 (v0.alloc (.cells #[.int .i64 s, .slice none 0 0] 39)) := (Below.refl _ _).alloc (Nat.le_refl _) _
  have k3 := (MapKept.heap_alloc v0 (.cells #[.int .i64 s, .slice none 0 0] 39)).1
  obtain ⟨v1, hv1⟩ : ∃ v, v0.alloc (.cells #[.int .i64 s, .slice none 0 0] 39) = v := ⟨_, rfl⟩
  rw [hv1] at hal k3
  rw [sz2] at k3
  have HV := Lib.hid hv0
  have HV1 := Lib.hid hv1
  have HSZ := Lib.hid sz2
  have HB1 := Lib.hid (below_on hb0 hal)
  have K0 := Lib.hid k1
  have K1 := Lib.hid (kept hal k1)
  have K2 := Lib.hid (kept hal k2)
  have K3 := Lib.hid k3
  have HT := Lib.hid hT
  have HG := Lib.hid hG
  have HL := Lib.hid hl
  have HF := Lib.hid hF
  have HMM := Lib.hid hM
  have HCo := Lib.hid (fun n W => count_ref n W)
  clear hT hv0 hb0 k1 k2 k3 hl hG hEE hal hv1 sz1 sz2 hF hM
  go_enter Try.func25, Try.ntmps25
  go_upto_region 1 with fail
  rw [HV.out]
  obtain ⟨X, hX⟩ : ∃ X, w.heap.size = X := ⟨_, rfl⟩
  have HX := Lib.hid hX
  rw [hX] at K0 K1 K2 K3 HSZ ⊢
  obtain ⟨⟨a0, a1⟩, _⟩ := two_cells K0.out
  go_upto_region 2 with fail
  rw [HV1.out, HSZ.out]
  clear HV HV1 hX a0 a1 K0
  obtain ⟨⟨a0, a1⟩, _⟩ := two_cells K1.out
  go_wp2_with fail
  clear a0 a1
  go_loopg [18] len (fun g iv wr => ∃ (i : Nat) (v : Value) (l : List (Value × List Int)), i + g = len ∧ iv = .int .i64 i ∧ Hid (l.map (fun p => p.2) = (tabF M R).take i) ∧ Hid (∀ j, j < i → ∀ q, (tabF M R)[j]? = some q → ∀ x ∈ q, outB x = false) ∧ Hid (Grid wr (X + 3) v l) ∧ Hid (wr.heap[X]? = some (.cells #[.int .i64 s, .slice a len cap] 39 (0, 0))) ∧ Hid (wr.heap[X + 1]? = some (.cells #[.int .i64 0, .slice none 0 0] 39 (0, 0))) ∧ Hid (wr.heap[X + 2]? = some (.cells #[.int .i64 s, v] 39 (0, 0))) ∧ Hid (Below w.heap.size w wr))
  case atStart => exact ⟨0, _, [], by omega, rfl, Lib.hid rfl, Lib.hid (fun j hj => by omega), Lib.hid (Grid.nil _ _), K1, K2, K3, HB1⟩
  case round =>
    clear K1 K2 K3 HB1
    obtain ⟨i, v, l, hi0, rfl, HLR, HN, HGr, K1, K2, K3, HW⟩ := hrel
    have HJ := Lib.hid hi0
    have hi : i ≤ len := by omega
    clear hi0
    have hll : l.length = i := by
      have h := congrArg List.length HLR.out
      rw [List.length_map, List.length_take, tabF_len, HL.out] at h
      omega
    have HLL := Lib.hid hll
    clear hll
    have hXs : X + 2 < wr.heap.size := (Array.getElem?_eq_some_iff.1 K3.out).1
    by_cases hlt : i < len
    · obtain ⟨r, hr⟩ : ∃ r, R[i]? = some r := ⟨_, List.getElem?_eq_getElem (by rw [HL.out]; exact hlt)⟩
      have hrm := List.mem_of_getElem? hr
      have hrl := HG.out.len r hrm
      have hrc := HG.out.cnt r hrm
      have htf := tabF_get (M := M) hr
      obtain ⟨b1, o1, qa, qn, qc, ha, hbs, c0, hTq, hqn, hqc, hqm⟩ := HT.out.row HW.out hr
      obtain rfl : qn = s := by rw [← hqn, hrl]
      obtain ⟨q, hq⟩ : ∃ q, r.mapIdx (fun k x => x + M i k) = q := ⟨_, rfl⟩
      have hqg : ∀ (k : Nat) (x : Int), r[k]? = some x → q[k]? = some (x + M i k) := fun k x h => by rw [← hq]; exact rowF_get h
      have hql : q.length = qn := by rw [← hq, List.length_mapIdx, hrl]
      rw [hq] at htf
      have HTF := Lib.hid htf
      have HQG := Lib.hid hqg
      have HQL := Lib.hid hql
      have HRL := Lib.hid hrl
      have HRC := Lib.hid hrc
      have HTQ := Lib.hid hTq
      obtain ⟨wo, hwo⟩ : ∃ wo, wo = wr := ⟨_, rfl⟩
      subst hwo
      subst ha
      clear hr hrm hrl hrc htf hTq hqn hq hqg hql
      go_wp2_with fail
      clear c0
      go_loopg [9, 25] qn (fun g u0 kv wr => ∃ (k : Nat) (uu : Value), k + g = qn ∧ kv = .int .i64 k ∧ uu = u0 ∧ Hid (∀ j, j < k → ∀ x, q[j]? = some x → outB x = false) ∧ Hid (Own wr wo.heap.size 3 1 uu ((q.take k).map iC)) ∧ Hid (Below wo.heap.size wo wr))
      case atStart => exact ⟨0, _, by omega, rfl, rfl, Lib.hid (fun j hj => by omega), Lib.hid (Own.nil _ _ _ _), Lib.hid (Below.refl _ _)⟩
      case round =>
        obtain ⟨k, uu, hk0, rfl, rfl, HNk, HU, HWk⟩ := hrel
        have HJ2 := Lib.hid hk0
        have hk : k ≤ qn := by omega
        clear hk0
        by_cases hlt2 : k < qn
        · obtain ⟨wk, hwk⟩ : ∃ wk, wk = wr := ⟨_, rfl⟩
          subst hwk
          obtain ⟨y, hy⟩ : ∃ y, r[k]? = some y := ⟨_, List.getElem?_eq_getElem (by rw [HRL.out]; exact hlt2)⟩
          have hyb := HRC.out y (List.mem_of_getElem? hy)
          have hyg := HQG.out k y hy
          have hmb := HMM.out i k hlt hlt2
          obtain ⟨b2, o2, ha2, hbs2, c0⟩ := HTQ.out.one HWk.out (map_get hy)
          have HFk := HF.out i k hlt hlt2 wk (below_on HW.out HWk.out)
          obtain ⟨d, hd⟩ : ∃ d, M i k = d := ⟨_, rfl⟩
          rw [hd] at hyg hmb HFk
          replace HFk := Lib.hid HFk
          have y1 := hyb.1
          have y2 := hyb.2
          have d1 := hmb.1
          have d2 := hmb.2
          have htk : (q.take k).map iC ++ [iC (y + d)] = (q.take (k + 1)).map iC := by rw [List.take_add_one, hyg, List.map_append]; rfl
          have hkl : (q.take (k + 1)).length = k + 1 := by rw [List.length_take, HQL.out]; omega
          have HYG := Lib.hid hyg
          have HTK := Lib.hid htk
          have HKL := Lib.hid hkl
          have HUL : Hid (((q.take k).map iC).length = k) := Lib.hid (by rw [List.length_map, List.length_take, HQL.out]; omega)
          have hrn := hrun (i : Int) (k : Int)
          subst ha2
          clear hy hyb hyg hmb hd htk hkl
          go_wp2_with fail
          refine HFk.out.mono ?_
          rintro e w5 ⟨rfl, hb5⟩
          have HU5 := Lib.hid (HU.out.below hb5)
          have HW5 := Lib.hid (below_on HWk.out hb5)
          clear hb5 c0 hrn HFk
          go_wp2_with ((at_builtin; refine wpList_append_rows _ rfl _ _ 34 rfl wo.heap.size 3 _ 1 8 Try.underlying34 info_int rfl (by decide) uu ((q.take k).map iC) rfl (HU5.out.alloc _) ⟨w5.heap.size, 0, none⟩ 1 1 [iC (y + d)] rfl rfl (by simp [iC]) (one_row _ (iC (y + d)) 3 _ (by simp)) (by simp [iC, Value.oneCell']) (by rw [HUL.out]; omega) (by decide) (by have := HW5.out.size; simp; omega) ?_; intro v6 w6 hO6 hg6; have HW6 := Lib.hid ((HU5.out.alloc (.cells #[.int .i64 (y + d)] 3)).under (HW5.out.alloc HW5.out.size (.cells #[.int .i64 (y + d)] 3)) (Nat.le_refl _) (by have := HW5.out.size; simp; omega) hg6); rw [HTK.out] at hO6; obtain ⟨g6, c6, rfl, hgB, hgS⟩ := own_spotT hO6 (by rw [HKL.out]; omega); rw [HKL.out] at hO6 ⊢; have hcl6 := (hO6.at1 (i := k) (u := .int .i64 (y + d)) (map_get (by rw [List.getElem?_take, if_pos (Nat.lt_succ_self k)]; exact HYG.out))).1; have HO6 := Lib.hid hO6; clear hO6 hg6))
          refine (HCo.out _ _).mono ?_
          rw [count_out]
          rintro e w7 ⟨rfl, hw7⟩
          rw [← hw7]
          clear hw7
          cases hob : outB (y + d)
          · have HN6 : Hid (∀ j, j < k + 1 → ∀ x, q[j]? = some x → outB x = false) := Lib.hid (fun j hj x hx => by
              by_cases hjk : j = k
              · subst hjk
                rw [HYG.out, Option.some.injEq] at hx
                rw [← hx]; exact hob
              · exact HNk.out j (by omega) x hx)
            clear hob hcl6
            go_wp2_with fail
            go_roundg (qn - (k + 1))
            case measure => have := HJ2.out; omega
            case rel => exact ⟨k + 1, _, by omega, by go_num, rfl, HN6, HO6, HW6⟩
          · obtain rfl : E = 2 := by
              rw [← HEE.out]
              exact tooE_yes HTF.out (List.mem_of_getElem? HYG.out) hob
            have HWZ := Lib.hid (below_on HW.out HW6.out)
            have J2 := Lib.hid (kept HW6.out K2.out)
            have hz := zero_two J2.out 0 (.slice none 0 0)
            have hbz := below_two HWZ.out (b := X + 1) (by rw [← HX.out]; omega) (.int .i64 0) (.slice none 0 0)
            obtain ⟨⟨z0, z1⟩, f0, f1⟩ := two_cells J2.out
            have HBZ := Lib.hid hbz
            have HZ := Lib.hid hz
            clear hob hbz hz hcl6
            go_wp2_with fail
            obtain ⟨y0, y1⟩ := HZ.out
            generalize ((w6.setCell { block := X + 1, off := 0 } (Value.int IntKind.i64 0)).setCell { block := X + 1, off := 1 } (Value.slice none 0 0)) = w8 at *
            clear z0 z1 f0 f1
            try simp only [Exit.inBlock, Exit.then]
            refine bodyPost_ret (by simp [results, Try.results25, go_sem, y0, y1, Result.andThen]; try rfl) rfl ?_
            exact ⟨0, none, 0, 0, [], rfl, Or.inr ⟨by decide, rfl, rfl⟩, TTx.nil _ _, HBZ.out⟩
        · obtain rfl : k = qn := by omega
          have hU := HU.out
          rw [List.take_of_length_le (by rw [HQL.out]; exact Nat.le_refl _)] at hU
          obtain ⟨G, c, rfl, hGB, hGS⟩ := own_spotT hU (by rw [HQL.out]; omega)
          rw [HQL.out] at hU ⊢
          have J1 := Lib.hid (kept HWk.out K1.out)
          have J2 := Lib.hid (kept HWk.out K2.out)
          have J3 := Lib.hid (kept HWk.out K3.out)
          have HGk := Lib.hid (HGr.out.below HWk.out)
          have hal : Below wo.heap.size wo (wr.alloc (.cells #[.slice (some ⟨G, 0, none⟩) k c] 34)) := HWk.out.alloc HWk.out.size _
          have HAL := Lib.hid hal
          have HUa := Lib.hid ((hU.alloc (.cells #[.slice (some ⟨G, 0, none⟩) k c] 34)).base_le (show X + 3 ≤ wo.heap.size by omega))
          have HGG := Lib.hid (And.intro hGB hGS)
          have HLM : Hid ((l.map (fun p => [p.1])).length = i) := Lib.hid (by rw [List.length_map]; exact HLL.out)
          have HNN : Hid (∀ j, j < i + 1 → ∀ q, (tabF M R)[j]? = some q → ∀ x ∈ q, outB x = false) := Lib.hid (fun j hj q' hq' x hx => by
            by_cases hji : j = i
            · subst hji
              rw [HTF.out, Option.some.injEq] at hq'
              subst hq'
              obtain ⟨m, hm⟩ := List.getElem?_of_mem hx
              exact HNk.out m (by have := (List.getElem?_eq_some_iff.1 hm).1; rw [HQL.out] at this; exact this) x hm
            · exact HN.out j (by omega) q' hq' x hx)
          have hXw : X + 2 < wr.heap.size := (Array.getElem?_eq_some_iff.1 J3.out).1
          have HXW := Lib.hid hXw
          obtain ⟨⟨e0, e1⟩, _⟩ := two_cells J3.out
          obtain ⟨wk, hwk⟩ : ∃ wk, wk = wr := ⟨_, rfl⟩
          subst hwk
          clear hU hal HU HNk hGB hGS hXw
          go_wp2_with ((at_builtin; refine wpList_append_rows_at _ rfl _ _ 37 rfl (X + 3) 34 _ 1 24 Try.underlying37 info_slints rfl (by decide) v (l.map (fun p => [p.1])) rfl (HGk.out.out.alloc _) ⟨wk.heap.size, 0, none⟩ 1 1 [[.slice (some ⟨G, 0, none⟩) k c]] rfl rfl (by simp) (one_row _ [.slice (some ⟨G, 0, none⟩) k c] 34 _ (by simp)) (by simp [Value.oneCell']) (by rw [HLM.out]; omega) (by decide) (by have := HXW.out; simp; omega) ?_; intro v6 w6 hO6 hg6 hat6; obtain ⟨g6, c6, rfl⟩ := own_shape hO6 (by simp); rw [show (l.map (fun p => [p.1]) ++ [[Value.slice (some ⟨G, 0, none⟩) k c]]).length = i + 1 from by rw [List.length_append, HLM.out]; rfl] at hO6 hat6 ⊢; have hy6 := Lib.hid ((hg6.block (X + 2) (by have := HXW.out; simp; omega) (fun e => by have := (HGk.out.out.own.lt (X + 2) e.symm).1; omega)).trans ((Below.heap_alloc wk (.cells #[.slice (some ⟨G, 0, none⟩) k c] 34) (X + 2) HXW.out).trans J3.out)); obtain ⟨⟨p0, p1⟩, p2, p3⟩ := two_cells hy6.out))
          have hx6 := (hg6.block X (by have := HXW.out; simp; omega) (fun e => by have := (HGk.out.out.own.lt X e.symm).1; omega)).trans ((Below.heap_alloc wk (.cells #[.slice (some ⟨G, 0, none⟩) k c] 34) X (by have := HXW.out; omega)).trans J1.out)
          have hz6 := (hg6.block (X + 1) (by have := HXW.out; simp; omega) (fun e => by have := (HGk.out.out.own.lt (X + 1) e.symm).1; omega)).trans ((Below.heap_alloc wk (.cells #[.slice (some ⟨G, 0, none⟩) k c] 34) (X + 1) (by have := HXW.out; omega)).trans J2.out)
          have hP := HGr.out.push HUa.out HAL.out HGG.out.1 (by have := HGG.out.2; simp; omega) hO6 hg6 (by
            rcases hat6 with h | h
            · exact Or.inl h.symm
            · right
              have : g6 = (wk.alloc (.cells #[.slice (some ⟨G, 0, none⟩) k c] 34)).heap.size := by simpa [Value.ownBlock] using h
              exact this)
          have hu6 := (HGr.out.out.below HAL.out).under (below_on HW.out HAL.out) (by have := HXW.out; rw [HX.out]; omega) (by have h1 := HW.out.size; have h2 := HAL.out.size; omega) hg6
          have HP := Lib.hid (hP.setCell (a := ⟨X + 2, 1, none⟩) (by show X + 2 < X + 3; omega) (.slice (some ⟨g6, 0, none⟩) (i + 1) c6))
          have HU6 := Lib.hid (hu6.setCell (p := ⟨X + 2, 1, none⟩) (by rw [HX.out]; show X ≤ X + 2; omega) (.slice (some ⟨g6, 0, none⟩) (i + 1) c6))
          have HX6 := Lib.hid (blk_else (a := ⟨X + 2, 1, none⟩) (v := .slice (some ⟨g6, 0, none⟩) (i + 1) c6) hx6 (by show X ≠ X + 2; omega))
          have HZ6 := Lib.hid (blk_else (a := ⟨X + 2, 1, none⟩) (v := .slice (some ⟨g6, 0, none⟩) (i + 1) c6) hz6 (by show X + 1 ≠ X + 2; omega))
          have HY6 : Hid ((w6.setCell ⟨X + 2, 1, none⟩ (.slice (some ⟨g6, 0, none⟩) (i + 1) c6)).heap[X + 2]? = some (.cells #[.int .i64 k, .slice (some ⟨g6, 0, none⟩) (i + 1) c6] 39 (0, 0))) := Lib.hid (by rw [heap_setCell_same w6 (X + 2) 1 _ _ (.slice (some ⟨g6, 0, none⟩) (i + 1) c6) hy6.out]; rfl)
          clear hP hu6 hg6 hat6 hO6 hx6 hz6
          go_wp2_with fail
          go_roundg (len - (i + 1))
          case measure => have := HJ.out; omega
          case rel =>
            refine ⟨i + 1, _, _, by omega, by go_num, Lib.hid ?_, HNN, HP, HX6, HZ6, HY6, HU6⟩
            rw [List.map_append, HLR.out, List.take_add_one, HTF.out]; rfl
    · obtain rfl : i = len := by omega
      have hall : tooE (tabF M R) = 0 := tooE_no (fun q hq x hx => by
        obtain ⟨j, hj⟩ := List.getElem?_of_mem hq
        exact HN.out j (by have := (List.getElem?_eq_some_iff.1 hj).1; rw [tabF_len, HL.out] at this; exact this) q hj x hx)
      obtain rfl : E = 0 := by rw [← HEE.out]; exact hall
      have hgz := ((HGr.out.setCell (a := ⟨X + 1, 0, none⟩) (by show X + 1 < X + 3; omega) (.int .i64 s)).setCell (a := ⟨X + 1, 1, none⟩) (by show X + 1 < X + 3; omega) v)
      obtain ⟨a', c', hav, htt⟩ := hgz.tt
      rw [HLL.out, HLR.out, List.take_of_length_le (by rw [tabF_len, HL.out]; exact Nat.le_refl _)] at htt
      rw [HLL.out] at hav
      subst hav
      have HTT := Lib.hid htt.any
      have hz := zero_two K2.out s (.slice a' i c')
      have hbz := below_two HW.out (b := X + 1) (by rw [← HX.out]; omega) (.int .i64 s) (.slice a' i c')
      obtain ⟨⟨z0, z1⟩, f0, f1⟩ := two_cells K2.out
      obtain ⟨⟨b0, b1⟩, _⟩ := two_cells K3.out
      have HBZ := Lib.hid hbz
      have HZ := Lib.hid hz
      clear hbz hz htt hgz hall
      go_wp2_with fail
      obtain ⟨y0, y1⟩ := HZ.out
      generalize ((wr.setCell { block := X + 1, off := 0 } (Value.int IntKind.i64 s)).setCell { block := X + 1, off := 1 } (Value.slice a' i c')) = w8 at *
      clear z0 z1 f0 f1 b0 b1
      try simp only [Exit.inBlock, Exit.then]
      refine bodyPost_ret (by simp [results, Try.results25, go_sem, y0, y1, Result.andThen]; try rfl) rfl ?_
      first
      | exact ⟨s, _, i, c', rfl, _, ⟨rfl, rfl⟩, HTT.out, HBZ.out⟩
      | exact ⟨s, _, i, c', _, rfl, Or.inl ⟨rfl, rfl, rfl⟩, HTT.out, HBZ.out⟩
end Go.Proofs.Ytcfejbhoeichnaa
