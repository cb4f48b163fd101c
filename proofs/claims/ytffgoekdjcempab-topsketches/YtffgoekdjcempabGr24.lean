/- Texts joined: BottomLeast, BottomPut, BottomGood. -/
import Derived.Test.YtffgoekdjcempabGr20
import Derived.Test.YtffgoekdjcempabConcatInts
import Derived.Test.YtffgoekdjcempabCompactOwn
import Derived.Test.YtffgoekdjcempabGr6
import Derived.Test.YtffgoekdjcempabGr13
import Derived.Test.YtffgoekdjcempabSubSlice
import Derived.Test.YtffgoekdjcempabGr8
import Derived.Deep.DeepCutAuto
import Derived.RegionTactic
import Derived.BigRegion
import Derived.Deep.RegionWith
import Derived.Deep.RegionHeld3
/- The contract of the program's bottom.least. -/
namespace Go.Proofs.Ytffgoekdjcempab
open Go.ChangeShapes Go.WideShapes Go.ChangeAt Go.RowKit
open Least

theorem size_intB (w : World) : (sizeOf 3).run Try.prog w = .ok 1 w := by kernel_rfl
theorem elem_intB : Try.prog.elem 53 = 3 := by kernel_rfl
theorem cut_T (k : Nat) (l : List Int) : (uniq l).take (min k (uniq l).length) = T k l := by
  unfold T
  by_cases h : k ≤ (uniq l).length
  · rw [Nat.min_eq_left h]
  · rw [Nat.min_eq_right (by omega), List.take_of_length_le (Nat.le_refl _), List.take_of_length_le (by omega)]

set_option maxRecDepth 100000 in
set_option maxHeartbeats 2000000 in
theorem least_any (k : Nat) (a b : Option Addr) (len cap len2 cap2 : Nat) (l m : List Int) (w : World) (h : Tab w a len cap 1 (l.map iC)) (h2 : Tab w b len2 cap2 1 (m.map iC)) (hk : k ≤ 40) (hb1 : len ≤ 1000) (hb2 : len2 ≤ 1000) :
    Calls Try.prog 65 #[.int .i64 k, .slice a len cap, .slice b len2 cap2] w (RetRows w 3 1 ((T k (l ++ m)).map iC)) := by
  have hl := h.hlen
  rw [List.length_map] at hl
  have hl2 := h2.hlen
  rw [List.length_map] at hl2
  have hl0 : l.length = len := hl
  have hl20 : m.length = len2 := hl2
  have hba : Below w.heap.size w (w.alloc (.cells #[.slice a len cap, .slice b len2 cap2] 53)) := (Below.refl _ _).alloc (Nat.le_refl _) _
  have C0 := concat_ints (some ⟨w.heap.size, 0, none⟩) 2 2 [⟨a, len, cap, l⟩, ⟨b, len2, cap2, m⟩] (w.alloc (.cells #[.slice a len cap, .slice b len2 cap2] 53)) (tab_lit w 53 1 2 _ #[.slice a len cap, .slice b len2 cap2] rfl rfl (by intro r hr; simp [slC] at hr; rcases hr with rfl | rfl <;> rfl) (by decide) _ rfl) (by intro s hs; simp at hs; rcases hs with rfl | rfl; exact h.below hba; exact h2.below hba) (by simp; omega)
  rw [show ([⟨a, len, cap, l⟩, ⟨b, len2, cap2, m⟩] : List (Sl Int)).flatMap (·.l) = l ++ m from by simp] at C0
  have hL : (l ++ m).length ≤ 2000 := by rw [List.length_append]; omega
  have C1 := Lib.hid C0
  have HL := Lib.hid hL
  have HBA := Lib.hid hba
  clear C0 hba h h2 hl hl2 hl0 hl20 hL hb1 hb2
  generalize l ++ m = L at *
  go_enter Try.func65, Try.ntmps65
  go_wp2_with fail
  refine C1.out.mono ?_
  rintro e w1 ⟨v1, rfl, hO1, hb1⟩
  have hO1' := hO1.base_le (B := w.heap.size) HBA.out.size
  have C2 := Lib.hid (sort_own hO1' (by have := HL.out; omega))
  have HO1 := Lib.hid hO1'
  have HB1 := Lib.hid (below_on HBA.out hb1)
  clear hO1 hO1' hb1 C1 HBA
  go_wp2_with fail
  refine C2.out.mono ?_
  rintro e w2 ⟨rfl, hO2, hg2⟩
  have HB2 := Lib.hid (HO1.out.under HB1.out (Nat.le_refl _) HB1.out.size hg2)
  have C3 := compact_own hO2 (by rw [sortI_len]; have := HL.out; omega) (by rw [compact_sort, sortI_len]; exact uniq_lenle L)
  rw [compact_sort] at C3
  have C4 := Lib.hid C3
  have HO2 := Lib.hid hO2
  clear hO2 hg2 C2 HB1 HO1 C3
  go_wp2_with fail
  refine C4.out.mono ?_
  rintro e w3 ⟨v3, rfl, hO3, hg3⟩
  have HB3 := Lib.hid (HO2.out.under HB2.out (Nat.le_refl _) HB2.out.size hg3)
  obtain ⟨q, cq, rfl, hT3⟩ := hO3.tab
  have hle3 := hT3.hle
  have hm3 := hT3.hmax
  rw [List.length_map] at hO3 hle3 ⊢
  unfold maxLen at hm3
  have HCT := Lib.hid (cut_T k L)
  have HU := Lib.hid (uniq_lenle L)
  obtain ⟨n, hn⟩ : ∃ n, (uniq L).length = n := ⟨_, rfl⟩
  rw [hn] at hO3 hle3 HCT HU ⊢
  have hn2 : n ≤ 2000 := by have := HU.out; have := HL.out; omega
  obtain ⟨t, ht⟩ : ∃ t, min k n = t := ⟨_, rfl⟩
  rw [ht] at HCT
  have ht1 : t ≤ n := by omega
  have hO4 := hO3.pop ht1
  rw [HCT.out] at hO4
  have HO4 := Lib.hid hO4
  have rU := run_upto 53 3 1 Try.underlying53 elem_intB size_intB q n cq t (by omega)
  clear hO3 hO4 hT3 hg3 C4 HO2 HB2 hn HU HCT HL
  have HTT : Hid ((min (k : Int) (n : Int)).toNat = t) := Lib.hid (by omega)
  clear ht rU
  go_wp2
  go_ret
  exact ⟨_, rfl, by show Own w3 _ _ _ (.slice q (min (k : Int) (n : Int)).toNat cq) _; rw [HTT.out]; exact HO4.out, HB3.out⟩
end Go.Proofs.Ytffgoekdjcempab

/- The contracts of the program's bottom.Put, where the number is put. -/
namespace Go.Proofs.Ytffgoekdjcempab
open Go.ChangeShapes Go.WideShapes Go.ChangeAt Go.RowKit
open Least

namespace Least
theorem two_cells {w : World} {b : Nat} {K : Int} {v : Value} {t : TypeId} (h : w.heap[b]? = some (.cells #[.int .i64 K, v] t (0, 0))) :
    (w.cell? ⟨b, 0, none⟩ = some (.int .i64 K) ∧ w.cell? ⟨b, 1, none⟩ = some v) ∧ w.frozen? ⟨b, 0, none⟩ = false ∧ w.frozen? ⟨b, 1, none⟩ = false :=
  ⟨⟨cell_blk h rfl, cell_blk h rfl⟩, frozen_blk h, frozen_blk h⟩
theorem two_set {w : World} {b : Nat} {K K' : Int} {v v' : Value} {t : TypeId} (h : w.heap[b]? = some (.cells #[.int .i64 K, v] t (0, 0))) :
    ((w.setCell ⟨b, 0, none⟩ (.int .i64 K')).setCell ⟨b, 1, none⟩ v').heap[b]? = some (.cells #[.int .i64 K', v'] t (0, 0)) := by
  have h0 := heap_setCell_same w b 0 _ _ (.int .i64 K') h
  have h1 := heap_setCell_same _ b 1 _ _ v' h0
  rw [h1]
  rfl
theorem drew_below {w w' : World} (h : Below w.drew.heap.size w.drew w') : Below w.heap.size w w' := ((Below.refl _ _).drew.trans h)
theorem kept_blk {w1 w2 : World} {b : Nat} {o : Obj} (hb : Below w1.heap.size w1 w2) (h : w1.heap[b]? = some o) : w2.heap[b]? = some o :=
  (hb.block b (Array.getElem?_eq_some_iff.1 h).1).trans h
end Least

set_option maxRecDepth 100000 in
set_option maxHeartbeats 2000000 in
theorem bput_ok (k : Nat) (a : Option Addr) (len cap : Nat) (l : List Int) (n : Int) (w : World) (h : Tab w a len cap 1 (l.map iC)) (hE : bottomE k l = 0) (hn0 : 0 ≤ n) (hn1 : n < 72057594037927936) :
    Calls Try.prog 36 #[bottomV k a len cap, .int .i64 n] w fun e w' => ∃ v, e = .returned (.tuple #[.agg #[.int .i64 k, v], .int .i64 0]) ∧ Own w' w.heap.size 3 1 v ((T k (l ++ [n])).map iC) ∧ Below w.heap.size w w' := by
  obtain ⟨k1, k2, hlk, _⟩ := bottomE_zero hE
  have hl := h.hlen
  rw [List.length_map] at hl
  have hl0 : l.length = len := hl
  have HW := fun W (hT : Tab W a len cap 1 (l.map iC)) => bcheck_any k a len cap l W hT
  rw [hE] at HW
  have HW := Lib.hid HW
  have CI := fun W => inRange_any n W
  rw [decide_eq_true hn0, decide_eq_true hn1] at CI
  have CI := Lib.hid CI
  have HC := Lib.hid (fun (W : World) (p : Option Addr) (hT : Tab W a len cap 1 (l.map iC)) (hN : Tab W p 1 1 1 ([n].map iC)) => least_any k a p len cap 1 1 l [n] W hT hN (by omega) (by omega) (by omega))
  have hbx : Below w.heap.size w ((w.alloc (.cells #[.int .i64 k, .slice a len cap] 69)).alloc (.cells #[.int .i64 0, .slice none 0 0] 69)) := ((Below.refl _ _).alloc (Nat.le_refl _) _).alloc (by simp) _
  have HTX := Lib.hid (h.below hbx)
  have HT := Lib.hid h
  have HBX := Lib.hid hbx
  clear hE hbx h hl hl0 hlk hn0 hn1
  unfold bottomV at HW ⊢
  go_enter Try.func36, Try.ntmps36
  go_wp2_with fail
  refine (HW.out _ HTX.out).mono ?_
  rintro e w1 ⟨rfl, hb1⟩
  have hk1 : w1.heap[w.heap.size]? = some (.cells #[.int .i64 k, .slice a len cap] 69 (0, 0)) := by
    rw [hb1.block w.heap.size (by simp; omega), Below.heap_alloc _ _ _ (by simp)]
    exact (MapKept.heap_alloc w _).1
  have hk2 : w1.heap[w.heap.size + 1]? = some (.cells #[.int .i64 0, .slice none 0 0] 69 (0, 0)) := by
    rw [hb1.block (w.heap.size + 1) (by simp)]
    have := (MapKept.heap_alloc (w.alloc (.cells #[.int .i64 k, .slice a len cap] 69)) (.cells #[.int .i64 0, .slice none 0 0] 69)).1
    simpa using this
  have HB1 := Lib.hid (below_on HBX.out hb1)
  have hs1 : w.heap.size + 1 < w1.heap.size := (Array.getElem?_eq_some_iff.1 hk2).1
  obtain ⟨⟨c0, c1⟩, f0, f1⟩ := two_cells hk1
  have hal : Below w1.heap.size w1 (w1.alloc (.cells #[.int .i64 n] 3)) := (Below.refl _ _).alloc (Nat.le_refl _) _
  have KA1 := Lib.hid (kept_blk hal hk1)
  have KA2 := Lib.hid (kept_blk hal hk2)
  obtain ⟨⟨g0, g1⟩, x0, x1⟩ := two_cells KA1.out
  have HTA := Lib.hid ((HT.out.below HB1.out).below hal)
  have HNA := Lib.hid (tab_lit w1 3 1 1 ([n].map iC) #[.int .i64 n] rfl rfl (rows_of iC_len _) (by unfold maxLen; omega) _ rfl)
  have HBA := Lib.hid (below_on HB1.out hal)
  have hsA : w.heap.size + 1 < (w1.alloc (.cells #[.int .i64 n] 3)).heap.size := by have := hal.size; omega
  have HSA := Lib.hid hsA
  clear HW HBX hb1 HT hk1 hk2 hal hsA HTX
  go_wp2_with fail
  refine (CI.out _).mono ?_
  rintro e w4 ⟨rfl, hw4⟩
  rw [← hw4]
  clear hw4 CI
  go_wp2_with fail
  go_region_held3 (fun W => W.cell? ⟨w.heap.size, 0, none⟩ = some (.int .i64 k) ∧ W.cell? ⟨w.heap.size, 1, none⟩ = some (.slice a len cap)) (first | exact ⟨c0, c1⟩ | exact ⟨g0, g1⟩ | exact ⟨d0, d1⟩ | go_keep) (first | (go_at_call 65; refine Calls.mono (HC.out _ _ ?_ ?_) ?_; (first | exact HTA.out | exact HTA.out.below ((Below.refl _ _).drew)); (first | exact HNA.out | exact HNA.out.below ((Below.refl _ _).drew)); rintro e w2 ⟨v2, rfl, hO2, hb2⟩; obtain ⟨a2, cap2, rfl, hT2⟩ := hO2.tab; obtain ⟨⟨d0, d1⟩, q0, q1⟩ := two_cells (kept_blk hb2 KA1.out); obtain ⟨⟨e0, e1⟩, r0, r1⟩ := two_cells (kept_blk hb2 KA2.out)))
  all_goals (go_wp2_with fail)
  all_goals
    have Z := two_cells (two_set (K' := k) (v' := .slice a2 (T k (l ++ [n])).length cap2) (kept_blk hb2 KA2.out))
    have hO3 := (hO2.setCell (a := ⟨w.heap.size + 1, 0, none⟩) (by exact HSA.out) (.int .i64 k)).setCell (a := ⟨w.heap.size + 1, 1, none⟩) (by exact HSA.out) (.slice a2 (T k (l ++ [n])).length cap2)
    have hb3 : Below w.heap.size w _ := ((below_on HBA.out (drew_below hb2)).setCell (p := ⟨w.heap.size + 1, 0, none⟩) (by show w.heap.size ≤ w.heap.size + 1; omega) (.int .i64 k)).setCell (p := ⟨w.heap.size + 1, 1, none⟩) (by show w.heap.size ≤ w.heap.size + 1; omega) (.slice a2 (T k (l ++ [n])).length cap2)
    generalize ((w2.setCell { block := w.heap.size + 1, off := 0 } (Value.int IntKind.i64 k)).setCell { block := w.heap.size + 1, off := 1 } (Value.slice a2 (T k (l ++ [n])).length cap2)) = w3 at *
    clear d0 d1 e0 e1 q0 q1 r0 r1 c0 c1 f0 f1 g0 g1 x0 x1
    obtain ⟨⟨z0, z1⟩, _, _⟩ := Z
    try simp only [Exit.inBlock, Exit.then]
    refine bodyPost_ret (by simp [results, Try.results36, go_sem, z0, z1, Result.andThen]; try rfl) rfl ?_
    rw [List.length_map] at hO3
    exact ⟨_, rfl, hO3.base_le (by exact HBA.out.size), hb3⟩
end Go.Proofs.Ytffgoekdjcempab

/- Bottom sketches: what is kept of keys is a sketch that may be. Mathematics alone. -/
namespace Go.Proofs.Ytffgoekdjcempab
open Go.ChangeShapes Go.WideShapes Go.ChangeAt Go.RowKit
namespace Least
theorem T_okB {k : Nat} {l : List Int} (h : ∀ y ∈ l, 0 ≤ y ∧ y < 72057594037927936) : okB (T k l) := ⟨T_up k l, fun y hy => h y (T_mem hy)⟩
theorem T_good {k : Nat} {l : List Int} (h1 : 1 ≤ k) (h2 : k ≤ 40) (h : ∀ y ∈ l, 0 ≤ y ∧ y < 72057594037927936) : bottomE k (T k l) = 0 := bottomE_ok h1 h2 (T_le k l) (T_okB h)
end Least
end Go.Proofs.Ytffgoekdjcempab
