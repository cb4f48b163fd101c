/- The contract of slices.Insert on a slice of api.Counter that the call made itself, for one element. -/
import Derived.Test.YtffgoekdjcempaaGreatCopyInto
import Derived.Test.YtffgoekdjcempaaGreatInfoCounters
import Derived.Test.YtffgoekdjcempaaGreatGr3
import Derived.Test.YtffgoekdjcempaaGreatOwnTwo
import Derived.Test.YtffgoekdjcempaaGreatSubSlice
import Derived.Lib.Overlaps
import Derived.Shelf.Spec.SlicesInsert
import Derived.WalkKit
import Derived.Deep.RegionLaw
namespace Go.Proofs.YtffgoekdjcempaaGreat
open Go.ChangeShapes Go.WideShapes Go.ChangeAt Go.RowKit

namespace Ins
theorem size_ctr (w : World) : (sizeOf 37).run Tryz.prog w = .ok 2 w := by kernel_rfl
theorem elem_ctr : Tryz.prog.elem 22 = 37 := by kernel_rfl
theorem cells_ctr : (Tryz.prog.info? 37).map (·.size) = some 2 := by kernel_rfl
theorem row_at {w : World} {X : Nat} {c : Int × Int} {t : TypeId} (h : w.heap[X]? = some (.cells #[.int .i64 c.1, .int .i64 c.2] t (0, 0))) : ∀ j v, ([iiC c] : List (List Value)).flatten[j]? = some v → w.cell? ((⟨X, 0, none⟩ : Addr).add j) = some v := by
  intro j v hj
  rw [addr_add, Nat.zero_add]
  have hj2 : (iiC c)[j]? = some v := by simpa using hj
  refine cell_blk h ?_
  match j, hj2 with
  | 0, hj2 => simpa [iiC] using hj2
  | 1, hj2 => simpa [iiC] using hj2
  | j + 2, hj2 => simp [iiC] at hj2
theorem one_ctr (c : Int × Int) : ∀ u ∈ ([iiC c] : List (List Value)).flatten, u.oneCell' = true := by simp [iiC, Value.oneCell']
theorem flat_at {w : World} {base : Nat} {e : TypeId} {k g n cap : Nat} {R : List (List Value)} (h : Own w base e k (.slice (some ⟨g, 0, none⟩) n cap) R) (hk : 0 < k) {i : Nat} (hi : i ≤ n) : ∀ j v, (R.drop i).flatten[j]? = some v → w.cell? ((⟨g, i * k, none⟩ : Addr).add j) = some v := by
  intro j v hj
  have hl := h.laidAt.1
  rw [flatten_drop i h.rows (by omega), List.getElem?_drop] at hj
  have := h.tab_of.flat (Below.refl _ _) hk h.rows (i * k + j) v hj
  rw [addr_add] at this ⊢
  rw [Nat.zero_add] at this
  exact this
theorem shape_at {w : World} {b : Nat} {cur : Array Value} {t : TypeId} (h : w.heap[b]? = some (.cells cur t (0, 0))) : w.shape? b = some (t, cur.size) := by simp [World.shape?, h]
end Ins
open Ins

set_option maxRecDepth 100000 in
set_option maxHeartbeats 4000000 in
theorem insert_end {w : World} {base i : Nat} {v : Value} {C : List (Int × Int)} {c : Int × Int} {X : Nat} (hO : Own w base 37 2 v (C.map iiC)) (hi : C.length = i) (hl : C.length ≤ 100000) (hX : w.heap[X]? = some (.cells #[.int .i64 c.1, .int .i64 c.2] 37 (0, 0))) (hb : base ≤ w.heap.size) :
    Calls Tryz.prog 32 #[v, .int .i64 i, .slice (some ⟨X, 0, none⟩) 1 1] w fun e w' => ∃ v', e = .returned v' ∧ Own w' base 37 2 v' ((C ++ [c]).map iiC) ∧ Below base w w' := by
  obtain ⟨a, cap, rfl, hT⟩ := hO.tab
  have hle := hT.hle
  have hm := hT.hmax
  unfold maxLen at hm
  rw [List.length_map, hi] at hO hle ⊢
  have rU := run_from 22 37 2 Tryz.underlying22 elem_ctr size_ctr a i cap i (Nat.le_refl _)
  have HO := Lib.hid hO
  have HX := Lib.hid hX
  have HI := Lib.hid hi
  have HL := Lib.hid hl
  clear hO hT hX hi hl
  go_enter Tryz.func32, Tryz.ntmps32
  go_wp2_with ((at_builtin; refine wpList_append_rows _ rfl _ _ 22 rfl base 37 _ 2 16 Tryz.underlying22 info_counter rfl (by decide) _ (C.map iiC) rfl HO.out ⟨X, 0, none⟩ 1 1 [iiC c] rfl rfl (by simp [iiC]) (row_at HX.out) (one_ctr c) (by rw [List.length_map, HI.out]; have := HL.out; rw [HI.out] at this; omega) (by decide) hb ?_; intro v' w1 hO1 hg1))
  go_ret
  exact ⟨_, rfl, by rw [List.map_append]; exact hO1, HO.out.under (Below.refl base w) (Nat.le_refl _) hb hg1⟩

set_option maxRecDepth 100000 in
set_option maxHeartbeats 4000000 in
theorem insert_room {w : World} {base g n i cap : Nat} {C : List (Int × Int)} {c : Int × Int} {X : Nat} (hO : Own w base 37 2 (.slice (some ⟨g, 0, none⟩) n cap) (C.map iiC)) (hi : i < n) (hl : n ≤ 100000) (hr : n + 1 ≤ cap) (hX : w.heap[X]? = some (.cells #[.int .i64 c.1, .int .i64 c.2] 37 (0, 0))) (hXg : X ≠ g) (hb : base ≤ w.heap.size) :
    Calls Tryz.prog 32 #[.slice (some ⟨g, 0, none⟩) n cap, .int .i64 i, .slice (some ⟨X, 0, none⟩) 1 1] w fun e w' => ∃ v', e = .returned v' ∧ Own w' base 37 2 v' ((C.take i ++ c :: C.drop i).map iiC) ∧ Below base w w' := by
  obtain ⟨l1, l2, l3, l4, cur, l5, l6, l7⟩ := hO.laidAt
  rw [List.length_map] at l1
  unfold maxLen at l4
  obtain ⟨r, hrl, hO1⟩ := hO.roomy hr
  -- the elements go up by one
  obtain ⟨w1, hc1, hO2, hg2⟩ := run_copy_own (P := Tryz.prog) (sT := 22) hO1.drew Tryz.underlying22 cells_ctr (i + 1) (n - i) (n + 1 - (i + 1)) (n + 1 - i) ⟨g, i * 2, none⟩ ((C.map iiC).drop i) (by show min (n + 1 - i) (n + 1 - (i + 1)) = n - i; omega) (by rw [List.length_drop, List.length_map, l1]) (fun q hq => hO.rows q (List.mem_of_mem_drop hq))
    (fun j v hj => flat_at hO (by decide) (Nat.le_of_lt hi) j v hj) (fun u hu => one_of iiC_one C u (by rw [flatten_drop i (rows_of iiC_len C) (by rw [List.length_map]; omega)] at hu; exact List.mem_of_mem_drop hu)) (by omega)
  have hXw : w1.heap[X]? = some (.cells #[.int .i64 c.1, .int .i64 c.2] 37 (0, 0)) := by
    rw [hg2.block X (by show X < w.heap.size; exact (Array.getElem?_eq_some_iff.1 hX).1) (fun e => hXg (by simpa using e))]
    exact hX
  -- the new one takes its place
  obtain ⟨w2, hc2, hO3, hg3⟩ := run_copy_own (P := Tryz.prog) (sT := 22) hO2 Tryz.underlying22 cells_ctr i 1 (n + 1 - i) 1 ⟨X, 0, none⟩ [iiC c] (by show min 1 (n + 1 - i) = 1; omega) rfl (by simp [iiC]) (row_at hXw) (one_ctr c) (by omega)
  have hfin : (List.take i (List.take (i + 1) (C.map iiC ++ [r]) ++ (C.map iiC).drop i ++ List.drop (i + 1 + (n - i)) (C.map iiC ++ [r])) ++ [iiC c] ++ List.drop (i + 1) (List.take (i + 1) (C.map iiC ++ [r]) ++ (C.map iiC).drop i ++ List.drop (i + 1 + (n - i)) (C.map iiC ++ [r]))) = (C.take i ++ c :: C.drop i).map iiC := by
    have hz : List.drop (i + 1 + (n - i)) (C.map iiC ++ [r]) = [] := List.drop_of_length_le (by rw [List.length_append, List.length_map, l1]; simp; omega)
    have ht : List.take (i + 1) (C.map iiC ++ [r]) = (C.map iiC).take (i + 1) := List.take_append_of_le_length (by rw [List.length_map]; omega)
    have hl1 : ((C.map iiC).take (i + 1)).length = i + 1 := by rw [List.length_take, List.length_map]; omega
    rw [hz, ht, List.append_nil, List.take_append_of_le_length (by rw [hl1]; omega), List.take_take, Nat.min_eq_left (by omega), List.drop_append, hl1, Nat.sub_self, List.drop_zero, List.drop_of_length_le (by rw [hl1]; exact Nat.le_refl _), List.nil_append, List.map_append, List.map_cons, List.map_take, List.map_drop, List.append_assoc]
    rfl
  rw [hfin] at hO3
  clear hfin
  have HB : Hid (Below base w w2) := Lib.hid (((Below.refl base w).drew.grown hg2 (by exact hb) (fun q hq => by cases hq; exact l2)).grown hg3 (Nat.le_trans hb (by exact hg2.size)) (fun q hq => by cases hq; exact l2))
  have hne : g ≠ X := fun e => hXg e.symm
  have hov : ∀ lb cb, (callFunc 47 #[.slice (some ⟨X, 0, none⟩) 1 1, .slice (some ⟨g, (i + 1) * 2, none⟩) lb cb]).run Tryz.prog w = .ok (.value (.bool false)) w := fun lb cb => by
    rw [run_callFunc_extern Tryz.func47 (by kernel_rfl) (by kernel_rfl) (by kernel_rfl) (e := Extern.SlicesOverlaps.overlaps #[22, 22] #[4]) (by kernel_rfl),
      Lib.run_overlaps_apart w 22 4 37 Tryz.underlying22 2 size_ctr ⟨X, 0, none⟩ ⟨g, (i + 1) * 2, none⟩ 1 1 lb cb hXg _ _ _ _ (shape_at hX) (shape_at l5) (by omega) (frozen_blk hX) (frozen_blk hX)]
    rfl
  obtain ⟨J, hJ⟩ : ∃ J, i + 1 = J := ⟨_, rfl⟩
  obtain ⟨N, hN⟩ : ∃ N, n + 1 = N := ⟨_, rfl⟩
  have fromAt : ∀ T, T < cap → fromA (some (⟨g, 0, none⟩ : Addr)) cap T 2 = some ⟨g, T * 2, none⟩ := fun T hT => by
    unfold fromA
    rw [if_neg (by omega)]
    show some ((⟨g, 0, none⟩ : Addr).add (T * 2)) = _
    rw [addr_add, Nat.zero_add]
  have rA := run_from 22 37 2 Tryz.underlying22 elem_ctr size_ctr (some ⟨g, 0, none⟩) n cap i (Nat.le_of_lt hi)
  have rB := run_upto 22 37 2 Tryz.underlying22 elem_ctr size_ctr (some ⟨g, 0, none⟩) n cap N (by omega)
  have rC := run_from 22 37 2 Tryz.underlying22 elem_ctr size_ctr (some ⟨g, 0, none⟩) N cap J (by omega)
  have rD := run_from 22 37 2 Tryz.underlying22 elem_ctr size_ctr (some ⟨g, 0, none⟩) N cap i (by omega)
  rw [fromAt i (by omega)] at rA rD
  rw [fromAt J (by omega)] at rC
  rw [hJ] at hc1 hov
  rw [hN] at hc1 hc2 hO3
  have HO3 := Lib.hid hO3
  have iJ : (i : Int) + 1 = (J : Int) := by omega
  have iN : (n : Int) + 1 = (N : Int) := by omega
  have tin : ((i : Int) == (n : Int)) = false := by simp; omega
  have tnc : decide ((N : Int) > (cap : Int)) = false := by rw [decide_eq_false_iff_not]; omega
  have hiN : i < N := by omega
  have hJN : J ≤ N := by omega
  have hNc : N ≤ cap := by omega
  have wJ : IntKind.i64.wrap (J : Int) = (J : Int) := by rw [IntKind.wrap_i64]; omega
  have hcJ : ¬ (cap = J) := by omega
  have hci : ¬ (cap = i) := by omega
  have mixed : Tryz.prog.follows Departure.mixedOrders = true := by kernel_rfl
  clear hO hO1 hO2 hO3 hg2 hg3 hX hXw l2 l5 l6 l7 hb fromAt hJ hN hr
  go_enter Tryz.func32, Tryz.ntmps32
  go_wp2_with (simp only [hov])
  go_region_law_o (refine step_copy_runI rfl _ _ 22 22 rfl _ _ (by simp [Act.eval, Act.put]) (by simp [Act.eval, Act.put]) (hc1 _ _ _) ?_)
  go_wp2_with (at_builtin; refine wpList_copy_runI _ rfl _ _ 22 22 rfl _ _ rfl rfl (hc2 _ _ _) ?_)
  go_ret
  exact ⟨_, rfl, HO3.out, HB.out⟩

set_option maxRecDepth 100000 in
set_option maxHeartbeats 4000000 in
theorem insert_grow {w : World} {base g n i cap : Nat} {C : List (Int × Int)} {c : Int × Int} {X : Nat} (hO : Own w base 37 2 (.slice (some ⟨g, 0, none⟩) n cap) (C.map iiC)) (hi : i < n) (hl : n ≤ 100000) (hr : cap < n + 1) (hX : w.heap[X]? = some (.cells #[.int .i64 c.1, .int .i64 c.2] 37 (0, 0))) (hb : base ≤ w.heap.size) :
    Calls Tryz.prog 32 #[.slice (some ⟨g, 0, none⟩) n cap, .int .i64 i, .slice (some ⟨X, 0, none⟩) 1 1] w fun e w' => ∃ v', e = .returned v' ∧ Own w' base 37 2 v' ((C.take i ++ c :: C.drop i).map iiC) ∧ Below base w w' := by
  obtain ⟨l1, l2, l3, l4, cur, l5, l6, l7⟩ := hO.laidAt
  rw [List.length_map] at l1
  unfold maxLen at l4
  have hOi := hO.ahead (i := i) (by omega)
  rw [← List.map_take] at hOi
  obtain ⟨G, w1, Z, hz1, hG1, hG2, hZl, hO1, hb1⟩ := run_zeros_own (P := Tryz.prog) hOi Tryz.underlying22 Tryz.underlying3 info_counter rfl (by decide) (n + 1 - i) (by omega) (by omega) (by omega) (by decide) hb
  unfold maxLen at hG2
  have hin : i + (n + 1 - i) = n + 1 := by omega
  rw [hin] at hz1 hG1 hO1
  have hXl : X < w.heap.size := (Array.getElem?_eq_some_iff.1 hX).1
  have hgl : g < w.heap.size := (Array.getElem?_eq_some_iff.1 l5).1
  have hX1 := (hb1.block X hXl).trans hX
  have hOg : Own w1 base 37 2 (.slice (some ⟨g, 0, none⟩) n cap) (C.map iiC) := hO.below hb1
  obtain ⟨Y, hY⟩ : ∃ Y, w.heap.size = Y := ⟨_, rfl⟩
  rw [hY] at hz1 hO1 hXl hgl
  -- the new one takes its place
  obtain ⟨w2, hc2, hO2, hg2⟩ := run_copy_own (P := Tryz.prog) (sT := 22) hO1 Tryz.underlying22 cells_ctr i 1 (n + 1 - i) 1 ⟨X, 0, none⟩ [iiC c] (by show min 1 (n + 1 - i) = 1; omega) rfl (by simp [iiC]) (row_at hX1) (one_ctr c) (by omega)
  have hOg2 : Own w2 base 37 2 (.slice (some ⟨g, 0, none⟩) n cap) (C.map iiC) := hOg.keptBy hg2 (Or.inr (by simp [Value.ownBlock]; omega))
  -- the others go behind it
  obtain ⟨w3, hc3, hO3, hg3⟩ := run_copy_own (P := Tryz.prog) (sT := 22) hO2.drew Tryz.underlying22 cells_ctr (i + 1) (n - i) (n + 1 - (i + 1)) (n - i) ⟨g, i * 2, none⟩ ((C.map iiC).drop i) (by show min (n - i) (n + 1 - (i + 1)) = n - i; omega) (by rw [List.length_drop, List.length_map, l1]) (fun q hq => hO.rows q (List.mem_of_mem_drop hq))
    (fun j v hj => flat_at hOg2 (by decide) (Nat.le_of_lt hi) j v hj) (fun u hu => one_of iiC_one C u (by rw [flatten_drop i (rows_of iiC_len C) (by rw [List.length_map]; omega)] at hu; exact List.mem_of_mem_drop hu)) (by omega)
  have hfin : (List.take (i + 1) (List.take i ((C.take i).map iiC ++ Z) ++ [iiC c] ++ List.drop (i + 1) ((C.take i).map iiC ++ Z)) ++ (C.map iiC).drop i ++ List.drop (i + 1 + (n - i)) (List.take i ((C.take i).map iiC ++ Z) ++ [iiC c] ++ List.drop (i + 1) ((C.take i).map iiC ++ Z))) = (C.take i ++ c :: C.drop i).map iiC := by
    have h1 : ((C.take i).map iiC).length = i := by rw [List.length_map, List.length_take]; omega
    have h2 : List.take i ((C.take i).map iiC ++ Z) = (C.take i).map iiC := List.take_left' h1
    have h3 : List.drop (i + 1) ((C.take i).map iiC ++ Z) = Z.drop 1 := by rw [List.drop_append, h1, List.drop_of_length_le (by rw [h1]; omega), List.nil_append, show i + 1 - i = 1 from by omega]
    have h4 : ((C.take i).map iiC ++ [iiC c]).length = i + 1 := by rw [List.length_append, h1]; rfl
    have h5 : List.drop (i + 1 + (n - i)) ((C.take i).map iiC ++ [iiC c] ++ Z.drop 1) = [] := List.drop_of_length_le (by rw [List.length_append, h4, List.length_drop, hZl]; omega)
    rw [h2, h3, List.take_left' h4, h5, List.append_nil, List.map_append, List.map_cons, List.map_drop, List.append_assoc]
    rfl
  rw [hfin] at hO3
  clear hfin
  have HB : Hid (Below base w w3) := Lib.hid (((hb1.mono hb).grown hg2 (Nat.le_trans hb hb1.size) (fun q hq => by cases hq; omega)).drew.grown hg3 (Nat.le_trans hb (Nat.le_trans hb1.size (by exact hg2.size))) (fun q hq => by cases hq; omega))
  obtain ⟨J, hJ⟩ : ∃ J, i + 1 = J := ⟨_, rfl⟩
  obtain ⟨N, hN⟩ : ∃ N, n + 1 = N := ⟨_, rfl⟩
  have fromAt : ∀ (b cp T : Nat), T < cp → fromA (some (⟨b, 0, none⟩ : Addr)) cp T 2 = some ⟨b, T * 2, none⟩ := fun b cp T hT => by
    unfold fromA
    rw [if_neg (by omega)]
    show some ((⟨b, 0, none⟩ : Addr).add (T * 2)) = _
    rw [addr_add, Nat.zero_add]
  have rA := run_from 22 37 2 Tryz.underlying22 elem_ctr size_ctr (some ⟨g, 0, none⟩) n cap i (Nat.le_of_lt hi)
  have rB := run_upto 22 37 2 Tryz.underlying22 elem_ctr size_ctr (some ⟨g, 0, none⟩) n cap i (by omega)
  have rC := run_from 22 37 2 Tryz.underlying22 elem_ctr size_ctr (some ⟨Y, 0, none⟩) N G i (by omega)
  rw [fromAt g cap i (by omega)] at rA
  rw [fromAt Y G i (by omega)] at rC
  rw [hJ] at hc3
  rw [hN] at hc3 hc2 hz1 hO3 hG1
  have HO3 := Lib.hid (hO3.base_le (B := base) (Nat.le_refl _))
  have iJ : (i : Int) + 1 = (J : Int) := by omega
  have iN : (n : Int) + 1 = (N : Int) := by omega
  have iNi : (N : Int) - (i : Int) = ((N - i : Nat) : Int) := by omega
  have tin : ((i : Int) == (n : Int)) = false := by simp; omega
  have tnc : decide ((N : Int) > (cap : Int)) = true := by rw [decide_eq_true_iff]; omega
  have hiN : i < N := by omega
  have hcN : cap < N := by omega
  have hJN : J ≤ N := by omega
  have wJ : IntKind.i64.wrap (J : Int) = (J : Int) := by rw [IntKind.wrap_i64]; omega
  have hcJ : ¬ (G = J) := by omega
  have hci : ¬ (G = i) := by omega
  have hci2 : ¬ (cap = i) := by omega
  have mixed : Tryz.prog.follows Departure.mixedOrders = true := by kernel_rfl
  clear hO hO1 hO2 hO3 hOg hOg2 hOi hg2 hg3 hX hX1 l2 l5 l6 l7 hb fromAt hJ hN hr hb1 hZl hY hXl hgl hin
  go_enter Tryz.func32, Tryz.ntmps32
  go_wp2_with (first
    | (at_builtin; rw [iNi]; refine Lib.wpList_append_run _ rfl _ _ _ _ rfl _ _ rfl rfl _ _ (hz1 _) ?_)
    | (at_builtin; refine Lib.wpList_append_run _ rfl _ _ _ _ rfl _ _ rfl rfl _ _ (hz1 _) ?_)
    | (at_builtin; refine wpList_copy_runI _ rfl _ _ 22 22 rfl _ _ rfl rfl (hc2 _ _ _) ?_))
  go_region_law_o (refine step_copy_runI rfl _ _ 22 22 rfl _ _ (by simp [Act.eval, Act.put]) (by simp [Act.eval, Act.put]) (hc3 _ _ _) ?_)
  go_wp2
  go_ret
  exact ⟨_, rfl, HO3.out, HB.out⟩

/-- one element, at whatever place -/
theorem insert_counter {w : World} {base i : Nat} {v : Value} {C : List (Int × Int)} {c : Int × Int} {X : Nat} (hO : Own w base 37 2 v (C.map iiC)) (hi : i ≤ C.length) (hl : C.length ≤ 100000) (hX : w.heap[X]? = some (.cells #[.int .i64 c.1, .int .i64 c.2] 37 (0, 0))) (hXv : v.ownBlock ≠ some X) (hb : base ≤ w.heap.size) :
    Calls Tryz.prog 32 #[v, .int .i64 i, .slice (some ⟨X, 0, none⟩) 1 1] w fun e w' => ∃ v', e = .returned v' ∧ Own w' base 37 2 v' ((C.take i ++ c :: C.drop i).map iiC) ∧ Below base w w' := by
  rcases Nat.lt_or_ge i C.length with h | h
  · rcases hO.own.2 with ⟨_, h0⟩ | ⟨g, cap, cur, h0, _⟩
    · rw [List.length_map] at h0; omega
    · rw [List.length_map] at h0
      subst h0
      rcases Nat.lt_or_ge cap (C.length + 1) with hc | hc
      · exact insert_grow hO h hl hc hX hb
      · exact insert_room hO h hl hc hX (fun e => hXv (by simp [Value.ownBlock, e])) hb
  · have e : C.length = i := by omega
    have := insert_end (c := c) hO e hl hX hb
    rw [List.take_of_length_le (by omega), List.drop_of_length_le (by omega)]
    exact this
end Go.Proofs.YtffgoekdjcempaaGreat
