/- The contracts of the program's bloom.Put. -/
import Derived.Test.YtffgoekdjcempabBloomCheck
import Derived.Test.YtffgoekdjcempabCloneBools
namespace Go.Proofs.Ytffgoekdjcempab
open Go.ChangeShapes Go.WideShapes Go.ChangeAt Go.RowKit
open Bloom

namespace Bloom
theorem three_cells {w : World} {b : Nat} {x y : Int} {v : Value} {t : TypeId} (h : w.heap[b]? = some (.cells #[.int .i64 x, .int .i64 y, v] t (0, 0))) :
    (w.cell? ⟨b, 0, none⟩ = some (.int .i64 x) ∧ w.cell? ⟨b, 1, none⟩ = some (.int .i64 y) ∧ w.cell? ⟨b, 2, none⟩ = some v) ∧ w.frozen? ⟨b, 0, none⟩ = false ∧ w.frozen? ⟨b, 1, none⟩ = false ∧ w.frozen? ⟨b, 2, none⟩ = false :=
  ⟨⟨cell_blk h rfl, cell_blk h rfl, cell_blk h rfl⟩, frozen_blk h, frozen_blk h, frozen_blk h⟩
theorem three_set {w : World} {b : Nat} {x y x' y' : Int} {v v' : Value} {t : TypeId} (h : w.heap[b]? = some (.cells #[.int .i64 x, .int .i64 y, v] t (0, 0))) :
    (((w.setCell ⟨b, 0, none⟩ (.int .i64 x')).setCell ⟨b, 1, none⟩ (.int .i64 y')).setCell ⟨b, 2, none⟩ v').heap[b]? = some (.cells #[.int .i64 x', .int .i64 y', v'] t (0, 0)) := by
  have h0 := heap_setCell_same w b 0 _ _ (.int .i64 x') h
  have h1 := heap_setCell_same _ b 1 _ _ (.int .i64 y') h0
  have h2 := heap_setCell_same _ b 2 _ _ v' h1
  rw [h2]
  rfl
theorem kept_blk3 {w1 w2 : World} {b : Nat} {o : Obj} (hb : Below w1.heap.size w1 w2) (h : w1.heap[b]? = some o) : w2.heap[b]? = some o :=
  (hb.block b (Array.getElem?_eq_some_iff.1 h).1).trans h
/-- the two boxes with which a function that answers a filter begins -/
theorem begun2 {w : World} {o p : Obj} : Below w.heap.size w ((w.alloc o).alloc p) ∧ ((w.alloc o).alloc p).heap[w.heap.size + 1]? = ((w.alloc o).alloc p).heap[(w.alloc o).heap.size]? := ⟨((Below.refl _ _).alloc (Nat.le_refl _) _).alloc (by simp) _, by simp⟩
theorem blk_else3 {w : World} {X : Nat} {a : Addr} {v : Value} {o : Obj} (h : w.heap[X]? = some o) (hne : X ≠ a.block) : (w.setCell a v).heap[X]? = some o := (Below.heap_setCell _ _ _ _ hne).trans h
end Bloom

set_option maxRecDepth 100000 in
set_option maxHeartbeats 2000000 in
theorem fput_bad (S K : Int) (a : Option Addr) (len cap : Nat) (x : Int) (hm : len ≤ 9223372036854775807) (w : World) (hE : filterE S K len ≠ 0) :
    Calls Try.prog 10 #[filterV S K a len cap, .int .i64 x] w fun e w' => e = .returned (.tuple #[.agg #[.int .i64 0, .int .i64 0, .slice none 0 0], .int .i64 (filterE S K len)]) ∧ Below w.heap.size w w' := by
  have HC := Lib.hid (fun W => fcheck_any S K a len cap hm W)
  have t : (filterE S K len != 0) = true := by simpa using hE
  unfold filterV at HC ⊢
  clear hE
  generalize filterE S K len = E at *
  have HB0 := Lib.hid (show Below w.heap.size w ((w.alloc (.cells #[.int .i64 S, .int .i64 K, .slice a len cap] 24)).alloc (.cells #[.int .i64 0, .int .i64 0, .slice none 0 0] 24)) from ((Below.refl _ _).alloc (Nat.le_refl _) _).alloc (by simp) _)
  go_enter Try.func10, Try.ntmps10
  go_wp2_with fail
  refine (HC.out _).mono ?_
  rintro e w1 ⟨rfl, hb1⟩
  have k2 : w1.heap[w.heap.size + 1]? = some (.cells #[.int .i64 0, .int .i64 0, .slice none 0 0] 24 (0, 0)) := by
    rw [hb1.block (w.heap.size + 1) (by simp)]
    have := (MapKept.heap_alloc (w.alloc (.cells #[.int .i64 S, .int .i64 K, .slice a len cap] 24)) (.cells #[.int .i64 0, .int .i64 0, .slice none 0 0] 24)).1
    simpa using this
  have HB1 := Lib.hid (below_on HB0.out hb1)
  obtain ⟨⟨c0, c1, c2⟩, f0, f1, f2⟩ := three_cells k2
  have Z := three_cells (three_set (x' := 0) (y' := 0) (v' := .slice none 0 0) k2)
  have hb3 : Below w.heap.size w _ := ((HB1.out.setCell (p := ⟨w.heap.size + 1, 0, none⟩) (by show w.heap.size ≤ w.heap.size + 1; omega) (.int .i64 0)).setCell (p := ⟨w.heap.size + 1, 1, none⟩) (by show w.heap.size ≤ w.heap.size + 1; omega) (.int .i64 0)).setCell (p := ⟨w.heap.size + 1, 2, none⟩) (by show w.heap.size ≤ w.heap.size + 1; omega) (.slice none 0 0)
  clear hb1 HC HB0
  go_wp2_with fail
  obtain ⟨⟨z0, z1, z2⟩, _⟩ := Z
  generalize (((w1.setCell { block := w.heap.size + 1, off := 0 } (Value.int IntKind.i64 0)).setCell { block := w.heap.size + 1, off := 1 } (Value.int IntKind.i64 0)).setCell { block := w.heap.size + 1, off := 2 } (Value.slice none 0 0)) = w3 at *
  clear c0 c1 c2 f0 f1 f2 k2
  try simp only [Exit.inBlock, Exit.then]
  refine bodyPost_ret (by simp [results, Try.results10, go_sem, z0, z1, z2, Result.andThen]; try rfl) rfl ?_
  exact ⟨rfl, hb3⟩

theorem own_spotB {w : World} {base : Nat} {e : TypeId} {v : Value} {L : List Bool} (h : Own w base e 1 v (L.map bC)) (hl : 0 < L.length) : ∃ g cap, v = .slice (some ⟨g, 0, none⟩) L.length cap ∧ base ≤ g ∧ g < w.heap.size := by
  rcases h.own.2 with ⟨_, h0'⟩ | ⟨g', cap', cur, h0, hg, hc, _⟩
  · rw [List.length_map] at h0'; omega
  · rw [List.length_map] at h0
    exact ⟨g', cap', h0, hg, (Array.getElem?_eq_some_iff.1 hc).1⟩
theorem own_spotI {w : World} {base : Nat} {e : TypeId} {v : Value} {L : List Int} (h : Own w base e 1 v (L.map iC)) (hl : 0 < L.length) : ∃ g cap, v = .slice (some ⟨g, 0, none⟩) L.length cap ∧ base ≤ g ∧ g < w.heap.size := by
  rcases h.own.2 with ⟨_, h0'⟩ | ⟨g', cap', cur, h0, hg, hc, _⟩
  · rw [List.length_map] at h0'; omega
  · rw [List.length_map] at h0
    exact ⟨g', cap', h0, hg, (Array.getElem?_eq_some_iff.1 hc).1⟩

set_option maxRecDepth 100000 in
set_option maxHeartbeats 4000000 in
theorem fput_ok (s k : Nat) (a : Option Addr) (len cap : Nat) (B : List Bool) (x : Int) (w : World) (hT : Tab w a len cap 1 (B.map bC)) (hE : filterE s k len = 0) :
    Calls Try.prog 10 #[filterV s k a len cap, .int .i64 x] w fun e w' => ∃ v, e = .returned (.tuple #[.agg #[.int .i64 s, .int .i64 k, v], .int .i64 0]) ∧ Own w' w.heap.size 4 1 v ((putB B (places x s k)).map bC) ∧ Below w.heap.size w w' := by
  obtain ⟨s', k', e1, e2, h1, h2, h3, h4, h5⟩ := filterE_zero hE
  obtain rfl : s' = s := by omega
  obtain rfl : k' = k := by omega
  clear e1 e2
  subst h5
  have hl := hT.hlen
  rw [List.length_map] at hl
  have HL := Lib.hid hl
  have hle := hT.hle
  have hmx := hT.hmax
  unfold maxLen at hmx
  have HC := fun W => fcheck_any len k' a len cap (by omega) W
  rw [hE] at HC
  have HC := Lib.hid HC
  have HCl := Lib.hid (fun W (h : Tab W a len cap 1 (B.map bC)) => clone_bools a len cap B W h (by omega))
  have HP := fun W => positions_any len k' a len cap x h1 h2 h3 h4 W
  obtain ⟨P, hP⟩ : ∃ P, places x len k' = P := ⟨_, rfl⟩
  have hPl : P.length = k' := by rw [← hP]; exact places_len _ _ _
  have hPb : ∀ p ∈ P, p < len := by rw [← hP]; exact places_lt h1
  unfold placesI at HP
  rw [hP] at HP ⊢
  replace HP := Lib.hid HP
  have HPL := Lib.hid hPl
  have HPB := Lib.hid hPb
  clear hP hPl hPb
  have e0 : putB B (P.take 0) = B := by rw [List.take_zero]; rfl
  have HE0 := Lib.hid e0
  clear e0
  unfold filterV at HC HP ⊢
  have HT := Lib.hid hT
  have HB0 := Lib.hid (show Below w.heap.size w ((w.alloc (.cells #[.int .i64 len, .int .i64 k', .slice a len cap] 24)).alloc (.cells #[.int .i64 0, .int .i64 0, .slice none 0 0] 24)) from ((Below.refl _ _).alloc (Nat.le_refl _) _).alloc (by simp) _)
  clear hE hT hl
  go_enter Try.func10, Try.ntmps10
  go_wp2_with fail
  refine (HC.out _).mono ?_
  rintro e w1 ⟨rfl, hb1⟩
  have k1 : w1.heap[w.heap.size]? = some (.cells #[.int .i64 len, .int .i64 k', .slice a len cap] 24 (0, 0)) := by
    rw [hb1.block w.heap.size (by simp; omega), Below.heap_alloc _ _ _ (by simp)]
    exact (MapKept.heap_alloc w _).1
  have k2 : w1.heap[w.heap.size + 1]? = some (.cells #[.int .i64 0, .int .i64 0, .slice none 0 0] 24 (0, 0)) := by
    rw [hb1.block (w.heap.size + 1) (by simp)]
    have := (MapKept.heap_alloc (w.alloc (.cells #[.int .i64 len, .int .i64 k', .slice a len cap] 24)) (.cells #[.int .i64 0, .int .i64 0, .slice none 0 0] 24)).1
    simpa using this
  have HB1 := Lib.hid (below_on HB0.out hb1)
  have HSZ := Lib.hid (show w.heap.size + 1 < w1.heap.size from (Array.getElem?_eq_some_iff.1 k2).1)
  have K1 := Lib.hid k1
  have K2 := Lib.hid k2
  obtain ⟨X, hX⟩ : ∃ X, w.heap.size = X := ⟨_, rfl⟩
  rw [hX] at K1 K2 ⊢
  have HX := Lib.hid hX
  clear hb1 HC HB0 k1 k2 hX
  obtain ⟨⟨a0, a1, a2⟩, _⟩ := three_cells K1.out
  go_wp2_with fail
  refine (HCl.out _ (HT.out.below HB1.out)).mono ?_
  rintro e w2 ⟨v2, rfl, hO2, hb2⟩
  obtain ⟨g, c2, rfl, hg1, hg2⟩ := own_spotB hO2 (by rw [HL.out]; omega)
  rw [HL.out] at hO2 ⊢
  have HB2 := Lib.hid (below_on HB1.out hb2)
  replace K1 := Lib.hid (kept_blk3 hb2 K1.out)
  replace K2 := Lib.hid (kept_blk3 hb2 K2.out)
  have HO2 := Lib.hid hO2
  have HG := Lib.hid (And.intro hg1 hg2)
  clear a0 a1 a2 hb2 hO2 hg1 hg2 HCl
  obtain ⟨⟨a0, a1, a2⟩, _⟩ := three_cells K1.out
  go_wp2_with fail
  refine (HP.out _).mono ?_
  rintro e w3 ⟨v3, rfl, hO3, hb3⟩
  obtain ⟨q, c3, rfl, hT3⟩ := hO3.tab
  rw [List.length_map, List.length_map, HPL.out] at hT3 hO3 ⊢
  have HB3 := Lib.hid (below_on HB2.out hb3)
  replace K1 := Lib.hid (kept_blk3 hb3 K1.out)
  replace K2 := Lib.hid (kept_blk3 hb3 K2.out)
  replace HO2 := Lib.hid (HO2.out.below hb3)
  have HG3 := Lib.hid hb3.size
  have HO3 := Lib.hid hO3
  have HG4 := Lib.hid HG.out.2
  have hg1 := HG.out.1
  have hX1 : X + 1 < w1.heap.size := by rw [← HX.out]; have := HSZ.out; omega
  obtain ⟨B2, hB2⟩ : ∃ n, w2.heap.size = n := ⟨_, rfl⟩
  rw [hB2] at HO3 HG4
  obtain ⟨B1, hB1⟩ : ∃ n, w1.heap.size = n := ⟨_, rfl⟩
  rw [hB1] at HO2 hg1 hX1
  have hBB : w.heap.size ≤ B1 := by rw [← hB1]; exact HB1.out.size
  have hgg : (g ≠ X ∧ g ≠ X + 1) ∧ X + 1 < B1 := by omega
  have HGG := Lib.hid (And.intro hgg (And.intro hBB hg1))
  clear a0 a1 a2 hO3 hb3 HP hT3 HG HG3 hB2 hB1 hg1 hX1 hBB hgg HC HB1 HB2 HT HSZ
  go_wp2_with fail
  go_loopg [23] k' (fun n i wr => ∃ j : Nat, j + n = k' ∧ i = .int .i64 j ∧ Hid (Own wr B1 4 1 (.slice (some ⟨g, 0, none⟩) len c2) ((putB B (P.take j)).map bC)) ∧ Hid (Own wr B2 3 1 (.slice q k' c3) ((P.map (fun p : Nat => (p : Int))).map iC)) ∧ Hid (wr.heap[X]? = some (.cells #[.int .i64 len, .int .i64 k', .slice a len cap] 24 (0, 0))) ∧ Hid (wr.heap[X + 1]? = some (.cells #[.int .i64 0, .int .i64 0, .slice none 0 0] 24 (0, 0))) ∧ Hid (Below w.heap.size w wr))
  case atStart => exact ⟨0, by omega, rfl, by rw [HE0.out]; exact HO2, HO3, K1, K2, HB3⟩
  case round =>
    clear HO2 HO3 K1 K2 HB3
    obtain ⟨j, hj0, rfl, HO, HQ, K1, K2, HW⟩ := hrel
    have HJ := Lib.hid hj0
    have hj : j ≤ k' := by omega
    clear hj0
    by_cases hlt : j < k'
    · obtain ⟨p, hp⟩ : ∃ p, P[j]? = some p := ⟨_, List.getElem?_eq_getElem (by rw [HPL.out]; exact hlt)⟩
      have hpl := HPB.out p (List.mem_of_getElem? hp)
      obtain ⟨b1, o1, ha, hbs, c0⟩ := HQ.out.tab_of.one (Below.refl _ _) (map_get (map_get hp))
      have hN : (putB B (P.take j)).set p true = putB B (P.take (j + 1)) := by
        rw [List.take_add_one, hp, Option.toList_some, putB_snoc]
      obtain ⟨y, hy⟩ : ∃ y, (putB B (P.take j))[p]? = some y := ⟨_, List.getElem?_eq_getElem (by rw [putB_len, HL.out]; exact hpl)⟩
      obtain ⟨d1, d2, _, _⟩ := HO.out.at1 (map_get hy)
      have hS := HO.out.set1 (map_get hy) (.bool true)
      rw [← show bC true = [Value.bool true] from rfl, ← List.map_set, hN] at hS
      have HS := Lib.hid hS
      have HQ2 := Lib.hid (HQ.out.setCell (a := ⟨g, p, none⟩) HG4.out (.bool true))
      have HW2 := Lib.hid (HW.out.setCell (p := ⟨g, p, none⟩) (Nat.le_trans HGG.out.2.1 HGG.out.2.2) (.bool true))
      have J1 := Lib.hid (blk_else3 (a := ⟨g, p, none⟩) (v := .bool true) K1.out (fun h => HGG.out.1.1.1 h.symm))
      have J2 := Lib.hid (blk_else3 (a := ⟨g, p, none⟩) (v := .bool true) K2.out (fun h => HGG.out.1.1.2 h.symm))
      subst ha
      clear hp hN hy hS
      go_wp2_with fail
      go_roundg (k' - (j + 1))
      case measure => have := HJ.out; omega
      case rel => exact ⟨j + 1, by omega, by go_num, HS, HQ2, J1, J2, HW2⟩
    · obtain rfl : j = k' := by omega
      rw [List.take_of_length_le (by rw [HPL.out]; omega)] at HO
      obtain ⟨⟨a0, a1, a2⟩, _⟩ := three_cells K1.out
      obtain ⟨⟨r0, r1, r2⟩, f0, f1, f2⟩ := three_cells K2.out
      have Z := three_cells (three_set (x' := len) (y' := j) (v' := .slice (some ⟨g, 0, none⟩) len c2) K2.out)
      have HOZ := Lib.hid ((((HO.out.setCell (a := ⟨X + 1, 0, none⟩) (by show X + 1 < B1; exact HGG.out.1.2) (.int .i64 len)).setCell (a := ⟨X + 1, 1, none⟩) (by show X + 1 < B1; exact HGG.out.1.2) (.int .i64 j)).setCell (a := ⟨X + 1, 2, none⟩) (by show X + 1 < B1; exact HGG.out.1.2) (.slice (some ⟨g, 0, none⟩) len c2)).base_le HGG.out.2.1)
      have hXX : w.heap.size ≤ X + 1 := by rw [HX.out]; exact Nat.le_succ _
      have HBZ := Lib.hid (((HW.out.setCell (p := ⟨X + 1, 0, none⟩) hXX (.int .i64 len)).setCell (p := ⟨X + 1, 1, none⟩) hXX (.int .i64 j)).setCell (p := ⟨X + 1, 2, none⟩) hXX (.slice (some ⟨g, 0, none⟩) len c2))
      have HZ := Lib.hid Z.1
      clear Z HO HQ HW hXX
      go_wp2_with fail
      obtain ⟨z0, z1, z2⟩ := HZ.out
      generalize (((wr.setCell { block := X + 1, off := 0 } (Value.int IntKind.i64 len)).setCell { block := X + 1, off := 1 } (Value.int IntKind.i64 j)).setCell { block := X + 1, off := 2 } (Value.slice (some { block := g, off := 0 }) len c2)) = w5 at *
      clear r0 r1 r2 f0 f1 f2 a0 a1 a2 HZ
      try simp only [Exit.inBlock, Exit.then]
      refine bodyPost_ret (by simp [results, Try.results10, go_sem, z0, z1, z2, Result.andThen]; try rfl) rfl ?_
      exact ⟨_, rfl, HOZ.out, HBZ.out⟩
end Go.Proofs.Ytffgoekdjcempab
