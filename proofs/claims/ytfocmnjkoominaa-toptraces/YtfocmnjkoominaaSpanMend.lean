/- The contract of the program's span.Mend. -/
import Derived.Test.YtfocmnjkoominaaSpanCheck
import Derived.Test.YtfocmnjkoominaaCopyRows
import Derived.Test.YtfocmnjkoominaaOwnMore
import Derived.Test.YtfocmnjkoominaaInfoSpans
import Derived.Deep.DeepCutAuto
import Derived.RegionTactic
import Derived.BigRegion
namespace Go.Proofs.Ytfocmnjkoominaa
open Go.ChangeShapes Go.WideShapes Go.ChangeAt Go.RowKit
open Span

theorem flat_zeros2 (n : Nat) : ((List.replicate n ((0 : Int), (0 : Int))).map iiC).length = n ∧ ((List.replicate n ((0 : Int), (0 : Int))).map iiC).flatten = (madeCells (Value.agg #[.int .i64 0, .int .i64 0]).cells (n * 2)).toList ∧ ∀ r ∈ (List.replicate n ((0 : Int), (0 : Int))).map iiC, r.length = 2 := by
  refine ⟨by simp, ?_, ?_⟩
  · have h1 : ((List.replicate n ((0 : Int), (0 : Int))).map iiC).flatten = List.replicate (n * 2) (Value.int .i64 0) := by
      induction n with
      | zero => rfl
      | succ n ih =>
        rw [List.replicate_succ, List.map_cons, List.flatten_cons, ih, show (n + 1) * 2 = n * 2 + 1 + 1 from by omega, List.replicate_succ, List.replicate_succ]
        rfl
    rw [h1]
    apply List.ext_getElem?
    intro i
    simp only [madeCells, Value.cells, List.getElem?_replicate]
    by_cases h : i < n * 2
    · rw [if_pos h, List.getElem?_eq_getElem (by simpa using h)]
      have : i % 2 = 0 ∨ i % 2 = 1 := by omega
      rcases this with e | e <;> simp [e]
    · rw [if_neg h, List.getElem?_eq_none (by simpa using h)]
  · intro r hr
    obtain ⟨x, _, rfl⟩ := List.mem_map.1 hr
    rfl
theorem size_span : (Try.prog.info? 54).map (·.size) = some 2 := by kernel_rfl

set_option maxRecDepth 100000 in
set_option maxHeartbeats 1000000 in
theorem mend_bad (a : Option Addr) (len cap : Nat) (l : List (Int × Int)) (w : World) (h : Tab w a len cap 2 (l.map iiC)) (hE : spansE l ≠ 0) :
    Calls Try.prog 30 #[.slice a len cap] w fun e w' => e = .returned (.tuple #[.slice none 0 0, .int .i64 (spansE l)]) ∧ Below w.heap.size w w' := by
  have HC := Lib.hid (spanCheck_any a len cap l w h)
  have t : (spansE l != 0) = true := by simpa using hE
  clear h hE
  generalize spansE l = E at *
  go_enter Try.func30, Try.ntmps30
  go_wp2_with fail
  refine HC.out.mono ?_
  rintro e w1 ⟨rfl, hb⟩
  go_wp2
  go_ret2
  exact ⟨rfl, hb⟩

theorem own_two {w : World} {base g n cap : Nat} {R : List (Int × Int)} (h : Own w base 54 2 (.slice (some ⟨g, 0, none⟩) n cap) (R.map iiC)) {i : Nat} {u v : Int} (hr : R[i]? = some (u, v)) :
    w.cell? ⟨g, i * 2, none⟩ = some (.int .i64 u) ∧ w.cell? ⟨g, i * 2 + 1, none⟩ = some (.int .i64 v) ∧ w.frozen? ⟨g, i * 2 + 1, none⟩ = false := by
  have h0 := h.at_ (j := 0) (map_get hr) rfl
  have h1 := h.at_ (j := 1) (map_get hr) rfl
  rw [Nat.add_zero] at h0
  exact ⟨h0.1, h1.1, h1.2.1⟩
theorem mendFrom_down {l m : List (Int × Int)} {k : Nat} (h : mendFrom (k + 1) m = mendL l) : mendFrom k (mendStep m k) = mendL l := h

set_option maxRecDepth 100000 in
set_option maxHeartbeats 2000000 in
theorem mend_ok (a : Option Addr) (len cap : Nat) (l : List (Int × Int)) (w : World) (h : Tab w a len cap 2 (l.map iiC)) (hE : spansE l = 0) :
    Calls Try.prog 30 #[.slice a len cap] w fun e w' => ∃ v, e = .returned (.tuple #[v, .int .i64 0]) ∧ Own w' w.heap.size 54 2 v ((mendL l).map iiC) ∧ Below w.heap.size w w' := by
  have hl := h.hlen
  rw [List.length_map] at hl
  obtain ⟨z1, z2⟩ := spansE_zero hE
  have h40 : len ≤ 40 := by omega
  have HC := Lib.hid (spanCheck_any a len cap l w h)
  rw [hE] at HC
  have HZ := Lib.hid z2
  have HT := Lib.hid h
  have HL := Lib.hid hl
  obtain ⟨i0, hi, hz0, hz1, hz2⟩ := info_parts info_span
  have HI := Lib.hid (And.intro hi (And.intro hz0 (And.intro hz1 hz2)))
  clear h hE hl z1 z2 hi hz0 hz1 hz2
  go_enter Try.func30, Try.ntmps30
  go_wp2_with fail
  refine HC.out.mono ?_
  rintro e w1 ⟨rfl, hb1⟩
  have HB1 := Lib.hid hb1
  have hG := hb1.size
  clear HC hb1
  go_wp2_with (first
    | (at_make; refine wpList_make_full _ rfl _ _ 52 rfl w1.heap.size 54 i0 (.agg #[.int .i64 0, .int .i64 0]) 2 Try.underlying52 HI.out.1 HI.out.2.1 HI.out.2.2.1 _ _ _ _ len rfl rfl rfl rfl (by rw [HI.out.2.2.2]; omega) (by unfold maxLen; omega) (Nat.le_refl _) ?_; intro w3 hO3 hg3; have HO3 := Lib.hid (Own.full hO3 (flat_zeros2 len)); have HB3 := Lib.hid (below_on HB1.out ((Below.refl _ _).grown hg3 (Nat.le_refl _) (fun j hj => by cases hj))); clear hO3 hg3)
    | (refine wpList_copy_rows (o := ⟨some 18, _, _, _, _, _⟩) rfl _ _ 52 52 rfl 54 2 Try.underlying52 size_span (by decide) w1.heap.size w1.heap.size len len _ HO3.out a cap (l.map iiC) (HT.out.below HB3.out) (rows_of iiC_len _) (one_of iiC_one _) rfl rfl ?_; intro w4 hO4 hg4; have HO4 := Lib.hid hO4; have HB4 := Lib.hid (HB3.out.grown hg4 HB3.out.size (fun j hj => by cases hj; exact hG)); clear hO4 hg4))
  generalize hGG : w1.heap.size = G at *
  clear hGG HI HO3 HB3 HB1
  have HM0 := Lib.hid (Mid.start l)
  rw [HL.out] at HM0
  have HF0 : Hid (mendFrom len l = mendL l) := Lib.hid (by unfold mendL; rw [HL.out])
  have hZ : ∀ (i : Nat) (s : Int × Int), l[i]? = some s → -1 ≤ s.1 ∧ s.1 < (i : Int) := fun i s hs => ⟨(HZ.out i s hs).1, (HZ.out i s hs).2.1⟩
  have HZZ := Lib.hid hZ
  clear hZ
  go_loopg [6] len (fun g i wr => ∃ (m : List (Int × Int)), g ≤ len ∧ i = .int .i64 ((g : Int) - 1) ∧ Hid (Own wr G 54 2 (.slice (some ⟨G, 0, none⟩) len len) (m.map iiC)) ∧ Hid (Mid l m g) ∧ Hid (mendFrom g m = mendL l) ∧ Hid (Below w.heap.size w wr))
  case atStart => exact ⟨l, Nat.le_refl _, rfl, HO4, HM0, HF0, HB4⟩
  case round =>
    clear HO4 HM0 HF0 HB4
    obtain ⟨m, hk, rfl, HO, HM, HF, HW⟩ := hrel
    cases gk with
    | zero =>
      have hv := HO.out
      rw [show m = mendL l from HF.out] at hv
      have hv := hv.base_le hG
      clear HO HM HF
      go_wp2
      go_ret2
      exact ⟨_, rfl, hv, HW.out⟩
    | succ k =>
      rw [show ((k + 1 : Nat) : Int) - 1 = (k : Int) from by omega]
      have hkl : k < len := by omega
      obtain ⟨⟨u, y⟩, hx⟩ : ∃ x, l[k]? = some x := ⟨_, List.getElem?_eq_getElem (by rw [HL.out]; exact hkl)⟩
      obtain ⟨v, hv, _, _⟩ := HM.out.get k _ hx
      simp only at hv
      have hz := HZZ.out k _ hx
      simp only at hz
      obtain ⟨hu0, hu1⟩ := hz
      obtain ⟨c0, c1, _⟩ := own_two HO.out hv
      have HM' := Lib.hid (HM.out.step HZZ.out (by rw [HL.out]; exact hkl))
      have HF' := Lib.hid (mendFrom_down HF.out)
      have HV := Lib.hid hv
      clear hx hv HM HF
      by_cases hu : u = -1
      · subst hu
        rw [mendStep_root HV.out rfl] at HM' HF'
        go_wp2_with fail
        go_roundg k
        case measure => omega
        case rel => exact ⟨m, by omega, by go_num, HO, HM', HF', HW⟩
      · have t1 : (u != -1) = true := by simpa using hu
        obtain ⟨n, rfl⟩ := Int.eq_ofNat_of_zero_le (show 0 ≤ u by omega)
        have hnk : n < k := by omega
        have hnl : n < len := by omega
        obtain ⟨⟨p, q⟩, hp⟩ : ∃ x, m[n]? = some x := ⟨_, List.getElem?_eq_getElem (by have := HM'.out.len; rw [mendStep_len] at this; rw [this, HL.out]; exact hnl)⟩
        obtain ⟨d0, d1, f1⟩ := own_two HO.out hp
        have hS : mendStep m k = m.set n (p, min q v) := by
          unfold mendStep
          rw [HV.out]
          simp only
          rw [if_neg hu, Int.toNat_natCast, hp]
        have hO2 := HO.out.set_ (j := 1) (map_get hp) (by decide) (.int .i64 (min q v))
        rw [show (iiC (p, q)).set 1 (.int .i64 (min q v)) = iiC (p, min q v) from rfl, ← List.map_set, ← hS] at hO2
        have hB2 := HW.out.setCell (p := ⟨G, n * 2 + 1, none⟩) hG (.int .i64 (min q v))
        have hmin : min q v = if v < q then v else q := by
          by_cases c : v < q
          · rw [if_pos c]; omega
          · rw [if_neg c]; omega
        rw [hmin] at hO2 hB2
        have HO2 := Lib.hid hO2
        have HB2 := Lib.hid hB2
        clear hu hp hS hO2 hu0 hB2 hmin
        go_wp2_with fail
        go_region
        generalize (wr.setCell { block := G, off := n * 2 + 1 } (Value.int IntKind.i64 (if v < q then v else q))) = W5 at *
        go_wp2_with fail
        all_goals
          go_roundg k
          case measure => omega
          case rel => exact ⟨_, by omega, by go_num, Lib.hid HO2.out.drew, HM', HF', Lib.hid ⟨HB2.out.os, HB2.out.tape, HB2.out.output, HB2.out.size, HB2.out.block⟩⟩
end Go.Proofs.Ytfocmnjkoominaa
