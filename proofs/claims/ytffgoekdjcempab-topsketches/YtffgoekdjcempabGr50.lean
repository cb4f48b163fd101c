/- Texts joined: CloneBools, BloomPut, FindFunc, BloomHas, BloomJoin, BloomAll. -/
import Derived.Test.YtffgoekdjcempabInfoBools
import Derived.WalkSpells
import Derived.Test.YtffgoekdjcempabBloomCheck
import Derived.Test.YtffgoekdjcempabGr6
import Derived.Deep.LoopGhost
import Derived.WalkKit
/- The contract of slices.Clone on slices of bool: a slice of its own with the same elements. Condition: it takes at most 2^47 bytes. -/
namespace Go.Proofs.Ytffgoekdjcempab
open Go.ChangeShapes Go.WideShapes Go.ChangeAt Go.RowKit

set_option maxRecDepth 100000 in
set_option maxHeartbeats 1000000 in
theorem clone_bools (a : Option Addr) (len cap : Nat) (l : List Bool) (w : World) (h : Tab w a len cap 1 (l.map bC)) (hbig : len * 1 ≤ 140737488355328) :
    Calls Try.prog 22 #[.slice a len cap] w (RetRows w 4 1 (l.map bC)) := by
  have e0 := h.hlen
  cases a with
  | none =>
    have hn : ∀ w : World, (binOp .eql 22 (.slice none len cap) (.slice none 0 0)).run Try.prog w = .ok (.bool true) w := fun w => Lib.run_eql_slice_nil (P := Try.prog) w 22 4 none len cap 0 0 Try.underlying22
    obtain ⟨hz, hR⟩ := h.nil_of
    rw [hR]
    clear hR e0 hz
    go_enter Try.func22, Try.ntmps22
    go_wp2
    go_ret
    exact ⟨_, rfl, Own.nil _ _ _ _, Below.refl _ _⟩
  | some ad =>
    have hn : ∀ w : World, (binOp .eql 22 (.slice (some ad) len cap) (.slice none 0 0)).run Try.prog w = .ok (.bool false) w := fun w => Lib.run_eql_slice_nil (P := Try.prog) w 22 4 (some ad) len cap 0 0 Try.underlying22
    have HE := Lib.hid e0
    clear e0
    go_enter Try.func22, Try.ntmps22
    go_wp2_with ((at_builtin; refine wpList_append_rows _ rfl _ _ 22 rfl w.heap.size 4 _ 1 1 Try.underlying22 info_bool rfl (by decide) _ [] rfl (Own.empty w 4 1) ad len cap (l.map bC) HE.out rfl (rows_of bC_len l) (h.flat ((Below.refl _ _).alloc (Nat.le_refl _) _) (by decide) (rows_of bC_len l)) (one_of bC_one l) (by simp; omega) (by decide) (by simp) ?_; intro v' w1 hO1 hg1))
    go_ret
    exact ⟨_, rfl, hO1, (Own.empty w 4 1).under ((Below.refl _ _).alloc (Nat.le_refl _) _) (Nat.le_refl _) (by simp) hg1⟩

end Go.Proofs.Ytffgoekdjcempab

/- The contracts of the program's bloom.Put. -/
namespace Go.Proofs.Ytffgoekdjcempab
open Go.ChangeShapes Go.WideShapes Go.ChangeAt Go.RowKit
open Bloom

namespace Bloom
theorem three_cells {w : World} {b : Nat} {x y : Int} {v : Value} {t : TypeId} (h : w.heap[b]? = some (.cells #[.int .i64 x, .int .i64 y, v] t (0, 0))) :
    (w.cell? ⟨b, 0, none⟩ = some (.int .i64 x) ∧ w.cell? ⟨b, 1, none⟩ = some (.int .i64 y) ∧ w.cell? ⟨b, 2, none⟩ = some v) ∧ w.frozen? ⟨b, 0, none⟩ = false ∧ w.frozen? ⟨b, 1, none⟩ = false ∧ w.frozen? ⟨b, 2, none⟩ = false :=
  ⟨⟨cell_blk h rfl, cell_blk h rfl, cell_blk h rfl⟩, frozen_blk h, frozen_blk h, frozen_blk h⟩
theorem three_set {w : World} {b : Nat} {x y x' y' : Int} {v v' : Value} {t : TypeId} (h : w.heap[b]? = some (.cells #[.int .i64 x, .int .i64 y, v] t (0, 0))) :
    (((w.setCell ⟨b, 0, none⟩ (.int .i64 x')).setCell ⟨b, 1, none⟩ (.int .i64 y')).setCell ⟨b, 2, none⟩ v').heap[b]? = some (.cells #[.int .i64 x', .int .i64 y', v'] t (0, 0)) := by
  have h0 := heap_setCell_same w b 0 _ _ (.int .i64 x') h
  have h1 := heap_setCell_same _ b 1 _ _ (.int .i64 y') h0
  have h2 := heap_setCell_same _ b 2 _ _ v' h1
  rw [h2]
  rfl
theorem kept_blk3 {w1 w2 : World} {b : Nat} {o : Obj} (hb : Below w1.heap.size w1 w2) (h : w1.heap[b]? = some o) : w2.heap[b]? = some o :=
  (hb.block b (Array.getElem?_eq_some_iff.1 h).1).trans h
/-- the two boxes with which a function that answers a filter begins -/
theorem begun2 {w : World} {o p : Obj} : Below w.heap.size w ((w.alloc o).alloc p) ∧ ((w.alloc o).alloc p).heap[w.heap.size + 1]? = ((w.alloc o).alloc p).heap[(w.alloc o).heap.size]? := ⟨((Below.refl _ _).alloc (Nat.le_refl _) _).alloc (by simp) _, by simp⟩
theorem blk_else3 {w : World} {X : Nat} {a : Addr} {v : Value} {o : Obj} (h : w.heap[X]? = some o) (hne : X ≠ a.block) : (w.setCell a v).heap[X]? = some o := (Below.heap_setCell _ _ _ _ hne).trans h
end Bloom

set_option maxRecDepth 100000 in
set_option maxHeartbeats 2000000 in
theorem fput_bad (S K : Int) (a : Option Addr) (len cap : Nat) (x : Int) (hm : len ≤ 9223372036854775807) (w : World) (hE : filterE S K len ≠ 0) :
    Calls Try.prog 10 #[filterV S K a len cap, .int .i64 x] w fun e w' => e = .returned (.tuple #[.agg #[.int .i64 0, .int .i64 0, .slice none 0 0], .int .i64 (filterE S K len)]) ∧ Below w.heap.size w w' := by
  have HC := Lib.hid (fun W => fcheck_any S K a len cap hm W)
  have t : (filterE S K len != 0) = true := by simpa using hE
  unfold filterV at HC ⊢
  clear hE
  generalize filterE S K len = E at *
  have HB0 := Lib.hid (show Below w.heap.size w ((w.alloc (.cells #[.int .i64 S, .int .i64 K, .slice a len cap] 24)).alloc (.cells #[.int .i64 0, .int .i64 0, .slice none 0 0] 24)) from ((Below.refl _ _).alloc (Nat.le_refl _) _).alloc (by simp) _)
  go_enter Try.func10, Try.ntmps10
  go_wp2_with fail
  refine (HC.out _).mono ?_
  rintro e w1 ⟨rfl, hb1⟩
  have k2 : w1.heap[w.heap.size + 1]? = some (.cells #[.int .i64 0, .int .i64 0, .slice none 0 0] 24 (0, 0)) := by
    rw [hb1.block (w.heap.size + 1) (by simp)]
    have := (MapKept.heap_alloc (w.alloc (.cells #[.int .i64 S, .int .i64 K, .slice a len cap] 24)) (.cells #[.int .i64 0, .int .i64 0, .slice none 0 0] 24)).1
    simpa using this
  have HB1 := Lib.hid (below_on HB0.out hb1)
  obtain ⟨⟨c0, c1, c2⟩, f0, f1, f2⟩ := three_cells k2
  have Z := three_cells (three_set (x' := 0) (y' := 0) (v' := .slice none 0 0) k2)
  have hb3 : Below w.heap.size w _ := ((HB1.out.setCell (p := ⟨w.heap.size + 1, 0, none⟩) (by show w.heap.size ≤ w.heap.size + 1; omega) (.int .i64 0)).setCell (p := ⟨w.heap.size + 1, 1, none⟩) (by show w.heap.size ≤ w.heap.size + 1; omega) (.int .i64 0)).setCell (p := ⟨w.heap.size + 1, 2, none⟩) (by show w.heap.size ≤ w.heap.size + 1; omega) (.slice none 0 0)
  clear hb1 HC HB0
  go_wp2_with fail
  obtain ⟨⟨z0, z1, z2⟩, _⟩ := Z
  generalize (((w1.setCell { block := w.heap.size + 1, off := 0 } (Value.int IntKind.i64 0)).setCell { block := w.heap.size + 1, off := 1 } (Value.int IntKind.i64 0)).setCell { block := w.heap.size + 1, off := 2 } (Value.slice none 0 0)) = w3 at *
  clear c0 c1 c2 f0 f1 f2 k2
  try simp only [Exit.inBlock, Exit.then]
  refine bodyPost_ret (by simp [results, Try.results10, go_sem, z0, z1, z2, Result.andThen]; try rfl) rfl ?_
  exact ⟨rfl, hb3⟩

theorem own_spotB {w : World} {base : Nat} {e : TypeId} {v : Value} {L : List Bool} (h : Own w base e 1 v (L.map bC)) (hl : 0 < L.length) : ∃ g cap, v = .slice (some ⟨g, 0, none⟩) L.length cap ∧ base ≤ g ∧ g < w.heap.size := by
  rcases h.own.2 with ⟨_, h0'⟩ | ⟨g', cap', cur, h0, hg, hc, _⟩
  · rw [List.length_map] at h0'; omega
  · rw [List.length_map] at h0
    exact ⟨g', cap', h0, hg, (Array.getElem?_eq_some_iff.1 hc).1⟩
theorem own_spotI {w : World} {base : Nat} {e : TypeId} {v : Value} {L : List Int} (h : Own w base e 1 v (L.map iC)) (hl : 0 < L.length) : ∃ g cap, v = .slice (some ⟨g, 0, none⟩) L.length cap ∧ base ≤ g ∧ g < w.heap.size := by
  rcases h.own.2 with ⟨_, h0'⟩ | ⟨g', cap', cur, h0, hg, hc, _⟩
  · rw [List.length_map] at h0'; omega
  · rw [List.length_map] at h0
    exact ⟨g', cap', h0, hg, (Array.getElem?_eq_some_iff.1 hc).1⟩

set_option maxRecDepth 100000 in
set_option maxHeartbeats 4000000 in
theorem fput_ok (s k : Nat) (a : Option Addr) (len cap : Nat) (B : List Bool) (x : Int) (w : World) (hT : Tab w a len cap 1 (B.map bC)) (hE : filterE s k len = 0) :
    Calls Try.prog 10 #[filterV s k a len cap, .int .i64 x] w fun e w' => ∃ v, e = .returned (.tuple #[.agg #[.int .i64 s, .int .i64 k, v], .int .i64 0]) ∧ Own w' w.heap.size 4 1 v ((putB B (places x s k)).map bC) ∧ Below w.heap.size w w' := by
  obtain ⟨s', k', e1, e2, h1, h2, h3, h4, h5⟩ := filterE_zero hE
  obtain rfl : s' = s := by omega
  obtain rfl : k' = k := by omega
  clear e1 e2
  subst h5
  have hl := hT.hlen
  rw [List.length_map] at hl
  have HL := Lib.hid hl
  have hle := hT.hle
  have hmx := hT.hmax
  unfold maxLen at hmx
  have HC := fun W => fcheck_any len k' a len cap (by omega) W
  rw [hE] at HC
  have HC := Lib.hid HC
  have HCl := Lib.hid (fun W (h : Tab W a len cap 1 (B.map bC)) => clone_bools a len cap B W h (by omega))
  have HP := fun W => positions_any len k' a len cap x h1 h2 h3 h4 W
  obtain ⟨P, hP⟩ : ∃ P, places x len k' = P := ⟨_, rfl⟩
  have hPl : P.length = k' := by rw [← hP]; exact places_len _ _ _
  have hPb : ∀ p ∈ P, p < len := by rw [← hP]; exact places_lt h1
  unfold placesI at HP
  rw [hP] at HP ⊢
  replace HP := Lib.hid HP
  have HPL := Lib.hid hPl
  have HPB := Lib.hid hPb
  clear hP hPl hPb
  have e0 : putB B (P.take 0) = B := by rw [List.take_zero]; rfl
  have HE0 := Lib.hid e0
  clear e0
  unfold filterV at HC HP ⊢
  have HT := Lib.hid hT
  have HB0 := Lib.hid (show Below w.heap.size w ((w.alloc (.cells #[.int .i64 len, .int .i64 k', .slice a len cap] 24)).alloc (.cells #[.int .i64 0, .int .i64 0, .slice none 0 0] 24)) from ((Below.refl _ _).alloc (Nat.le_refl _) _).alloc (by simp) _)
  clear hE hT hl
  go_enter Try.func10, Try.ntmps10
  go_wp2_with fail
  refine (HC.out _).mono ?_
  rintro e w1 ⟨rfl, hb1⟩
  have k1 : w1.heap[w.heap.size]? = some (.cells #[.int .i64 len, .int .i64 k', .slice a len cap] 24 (0, 0)) := by
    rw [hb1.block w.heap.size (by simp; omega), Below.heap_alloc _ _ _ (by simp)]
    exact (MapKept.heap_alloc w _).1
  have k2 : w1.heap[w.heap.size + 1]? = some (.cells #[.int .i64 0, .int .i64 0, .slice none 0 0] 24 (0, 0)) := by
    rw [hb1.block (w.heap.size + 1) (by simp)]
    have := (MapKept.heap_alloc (w.alloc (.cells #[.int .i64 len, .int .i64 k', .slice a len cap] 24)) (.cells #[.int .i64 0, .int .i64 0, .slice none 0 0] 24)).1
    simpa using this
  have HB1 := Lib.hid (below_on HB0.out hb1)
  have HSZ := Lib.hid (show w.heap.size + 1 < w1.heap.size from (Array.getElem?_eq_some_iff.1 k2).1)
  have K1 := Lib.hid k1
  have K2 := Lib.hid k2
  obtain ⟨X, hX⟩ : ∃ X, w.heap.size = X := ⟨_, rfl⟩
  rw [hX] at K1 K2 ⊢
  have HX := Lib.hid hX
  clear hb1 HC HB0 k1 k2 hX
  obtain ⟨⟨a0, a1, a2⟩, _⟩ := three_cells K1.out
  go_wp2_with fail
  refine (HCl.out _ (HT.out.below HB1.out)).mono ?_
  rintro e w2 ⟨v2, rfl, hO2, hb2⟩
  obtain ⟨g, c2, rfl, hg1, hg2⟩ := own_spotB hO2 (by rw [HL.out]; omega)
  rw [HL.out] at hO2 ⊢
  have HB2 := Lib.hid (below_on HB1.out hb2)
  replace K1 := Lib.hid (kept_blk3 hb2 K1.out)
  replace K2 := Lib.hid (kept_blk3 hb2 K2.out)
  have HO2 := Lib.hid hO2
  have HG := Lib.hid (And.intro hg1 hg2)
  clear a0 a1 a2 hb2 hO2 hg1 hg2 HCl
  obtain ⟨⟨a0, a1, a2⟩, _⟩ := three_cells K1.out
  go_wp2_with fail
  refine (HP.out _).mono ?_
  rintro e w3 ⟨v3, rfl, hO3, hb3⟩
  obtain ⟨q, c3, rfl, hT3⟩ := hO3.tab
  rw [List.length_map, List.length_map, HPL.out] at hT3 hO3 ⊢
  have HB3 := Lib.hid (below_on HB2.out hb3)
  replace K1 := Lib.hid (kept_blk3 hb3 K1.out)
  replace K2 := Lib.hid (kept_blk3 hb3 K2.out)
  replace HO2 := Lib.hid (HO2.out.below hb3)
  have HG3 := Lib.hid hb3.size
  have HO3 := Lib.hid hO3
  have HG4 := Lib.hid HG.out.2
  have hg1 := HG.out.1
  have hX1 : X + 1 < w1.heap.size := by rw [← HX.out]; have := HSZ.out; omega
  obtain ⟨B2, hB2⟩ : ∃ n, w2.heap.size = n := ⟨_, rfl⟩
  rw [hB2] at HO3 HG4
  obtain ⟨B1, hB1⟩ : ∃ n, w1.heap.size = n := ⟨_, rfl⟩
  rw [hB1] at HO2 hg1 hX1
  have hBB : w.heap.size ≤ B1 := by rw [← hB1]; exact HB1.out.size
  have hgg : (g ≠ X ∧ g ≠ X + 1) ∧ X + 1 < B1 := by omega
  have HGG := Lib.hid (And.intro hgg (And.intro hBB hg1))
  clear a0 a1 a2 hO3 hb3 HP hT3 HG HG3 hB2 hB1 hg1 hX1 hBB hgg HC HB1 HB2 HT HSZ
  go_wp2_with fail
  go_loopg [23] k' (fun n i wr => ∃ j : Nat, j + n = k' ∧ i = .int .i64 j ∧ Hid (Own wr B1 4 1 (.slice (some ⟨g, 0, none⟩) len c2) ((putB B (P.take j)).map bC)) ∧ Hid (Own wr B2 3 1 (.slice q k' c3) ((P.map (fun p : Nat => (p : Int))).map iC)) ∧ Hid (wr.heap[X]? = some (.cells #[.int .i64 len, .int .i64 k', .slice a len cap] 24 (0, 0))) ∧ Hid (wr.heap[X + 1]? = some (.cells #[.int .i64 0, .int .i64 0, .slice none 0 0] 24 (0, 0))) ∧ Hid (Below w.heap.size w wr))
  case atStart => exact ⟨0, by omega, rfl, by rw [HE0.out]; exact HO2, HO3, K1, K2, HB3⟩
  case round =>
    clear HO2 HO3 K1 K2 HB3
    obtain ⟨j, hj0, rfl, HO, HQ, K1, K2, HW⟩ := hrel
    have HJ := Lib.hid hj0
    have hj : j ≤ k' := by omega
    clear hj0
    by_cases hlt : j < k'
    · obtain ⟨p, hp⟩ : ∃ p, P[j]? = some p := ⟨_, List.getElem?_eq_getElem (by rw [HPL.out]; exact hlt)⟩
      have hpl := HPB.out p (List.mem_of_getElem? hp)
      obtain ⟨b1, o1, ha, hbs, c0⟩ := HQ.out.tab_of.one (Below.refl _ _) (map_get (map_get hp))
      have hN : (putB B (P.take j)).set p true = putB B (P.take (j + 1)) := by
        rw [List.take_add_one, hp, Option.toList_some, putB_snoc]
      obtain ⟨y, hy⟩ : ∃ y, (putB B (P.take j))[p]? = some y := ⟨_, List.getElem?_eq_getElem (by rw [putB_len, HL.out]; exact hpl)⟩
      obtain ⟨d1, d2, _, _⟩ := HO.out.at1 (map_get hy)
      have hS := HO.out.set1 (map_get hy) (.bool true)
      rw [← show bC true = [Value.bool true] from rfl, ← List.map_set, hN] at hS
      have HS := Lib.hid hS
      have HQ2 := Lib.hid (HQ.out.setCell (a := ⟨g, p, none⟩) HG4.out (.bool true))
      have HW2 := Lib.hid (HW.out.setCell (p := ⟨g, p, none⟩) (Nat.le_trans HGG.out.2.1 HGG.out.2.2) (.bool true))
      have J1 := Lib.hid (blk_else3 (a := ⟨g, p, none⟩) (v := .bool true) K1.out (fun h => HGG.out.1.1.1 h.symm))
      have J2 := Lib.hid (blk_else3 (a := ⟨g, p, none⟩) (v := .bool true) K2.out (fun h => HGG.out.1.1.2 h.symm))
      subst ha
      clear hp hN hy hS
      go_wp2_with fail
      go_roundg (k' - (j + 1))
      case measure => have := HJ.out; omega
      case rel => exact ⟨j + 1, by omega, by go_num, HS, HQ2, J1, J2, HW2⟩
    · obtain rfl : j = k' := by omega
      rw [List.take_of_length_le (by rw [HPL.out]; omega)] at HO
      obtain ⟨⟨a0, a1, a2⟩, _⟩ := three_cells K1.out
      obtain ⟨⟨r0, r1, r2⟩, f0, f1, f2⟩ := three_cells K2.out
      have Z := three_cells (three_set (x' := len) (y' := j) (v' := .slice (some ⟨g, 0, none⟩) len c2) K2.out)
      have HOZ := Lib.hid ((((HO.out.setCell (a := ⟨X + 1, 0, none⟩) (by show X + 1 < B1; exact HGG.out.1.2) (.int .i64 len)).setCell (a := ⟨X + 1, 1, none⟩) (by show X + 1 < B1; exact HGG.out.1.2) (.int .i64 j)).setCell (a := ⟨X + 1, 2, none⟩) (by show X + 1 < B1; exact HGG.out.1.2) (.slice (some ⟨g, 0, none⟩) len c2)).base_le HGG.out.2.1)
      have hXX : w.heap.size ≤ X + 1 := by rw [HX.out]; exact Nat.le_succ _
      have HBZ := Lib.hid (((HW.out.setCell (p := ⟨X + 1, 0, none⟩) hXX (.int .i64 len)).setCell (p := ⟨X + 1, 1, none⟩) hXX (.int .i64 j)).setCell (p := ⟨X + 1, 2, none⟩) hXX (.slice (some ⟨g, 0, none⟩) len c2))
      have HZ := Lib.hid Z.1
      clear Z HO HQ HW hXX
      go_wp2_with fail
      obtain ⟨z0, z1, z2⟩ := HZ.out
      generalize (((wr.setCell { block := X + 1, off := 0 } (Value.int IntKind.i64 len)).setCell { block := X + 1, off := 1 } (Value.int IntKind.i64 j)).setCell { block := X + 1, off := 2 } (Value.slice (some { block := g, off := 0 }) len c2)) = w5 at *
      clear r0 r1 r2 f0 f1 f2 a0 a1 a2 HZ
      try simp only [Exit.inBlock, Exit.then]
      refine bodyPost_ret (by simp [results, Try.results10, go_sem, z0, z1, z2, Result.andThen]; try rfl) rfl ?_
      exact ⟨_, rfl, HOZ.out, HBZ.out⟩
end Go.Proofs.Ytffgoekdjcempab

/- The contracts of slices.IndexFunc and slices.ContainsFunc on a slice of ints, for a closure with one captured variable that answers a test of the element and turns nothing old. -/
namespace Go.Proofs.Ytffgoekdjcempab
open Go.ChangeShapes Go.WideShapes Go.ChangeAt Go.RowKit
namespace Find

def idxF (p : Int → Bool) (l : List Int) : Int := if l.any p then ((l.findIdx p : Nat) : Int) else -1
theorem idxF_here {p : Int → Bool} {l : List Int} {k : Nat} {x : Int} (hx : l[k]? = some x) (hp : p x = true) (hn : ∀ j, j < k → ∀ y, l[j]? = some y → p y = false) : idxF p l = (k : Int) := by
  have hk := (List.getElem?_eq_some_iff.1 hx).1
  have hm : x ∈ l := List.mem_of_getElem? hx
  have ha : l.any p = true := List.any_eq_true.2 ⟨x, hm, hp⟩
  have hf : l.findIdx p = k := by
    refine (List.findIdx_eq hk).2 ⟨?_, fun j hj => ?_⟩
    · rw [(List.getElem?_eq_some_iff.1 hx).2]; exact hp
    · have := hn j hj _ (List.getElem?_eq_getElem (by omega))
      simpa using this
  unfold idxF
  rw [if_pos ha, hf]
theorem idxF_none {p : Int → Bool} {l : List Int} {k : Nat} (hk : l.length = k) (hn : ∀ j, j < k → ∀ y, l[j]? = some y → p y = false) : idxF p l = -1 ∧ l.any p = false := by
  have ha : l.any p = false := by
    rw [List.any_eq_false]
    intro x hx
    obtain ⟨j, hj⟩ := List.getElem?_of_mem hx
    have := hn j (by have := (List.getElem?_eq_some_iff.1 hj).1; omega) x hj
    simp [this]
  exact ⟨by unfold idxF; rw [ha]; rfl, ha⟩
theorem idxF_le (p : Int → Bool) (l : List Int) : decide (0 ≤ idxF p l) = l.any p := by
  unfold idxF
  by_cases h : l.any p = true
  · rw [if_pos h, h]; simp
  · rw [if_neg h]; simp at h ⊢; exact h
end Find
open Find

set_option maxRecDepth 100000 in
set_option maxHeartbeats 1000000 in
theorem indexFunc_any (F : Nat) (q : Option Addr) (p : Int → Bool) (a : Option Addr) (len cap : Nat) (l : List Int) (w : World) (h : Tab w a len cap 1 (l.map iC))
    (hrun : ∀ (x : Int) (W : World), (callFunc F #[.int .i64 x, .pointer q]).run Try.prog W = .ok (.enter F #[.int .i64 x, .pointer q]) W)
    (hF : ∀ x ∈ l, ∀ W : World, Below w.heap.size w W → Calls Try.prog F #[.int .i64 x, .pointer q] W fun e w' => e = .returned (.bool (p x)) ∧ Below W.heap.size W w') :
    Calls Try.prog 90 #[.slice a len cap, .func (.func F) #[] #[.pointer q]] w fun e w' => e = .returned (.int .i64 (idxF p l)) ∧ Below w.heap.size w w' := by
  have hl := h.hlen
  have hm := h.hmax
  have hle := h.hle
  rw [List.length_map] at hl
  unfold maxLen at hm
  have HT := Lib.hid h
  have HL := Lib.hid hl
  have HF := Lib.hid hF
  obtain ⟨r, hr⟩ : ∃ r, idxF p l = r := ⟨_, rfl⟩
  rw [hr]
  have HR := Lib.hid hr
  clear h hl hF hr
  go_enter Try.func90, Try.ntmps90
  go_wp2_with fail
  go_loopg [8] len (fun g i wr => ∃ k : Nat, k + g = len ∧ i = .int .i64 k ∧ Hid (∀ j, j < k → ∀ y, l[j]? = some y → p y = false) ∧ Hid (Below w.heap.size w wr))
  case atStart => exact ⟨0, by omega, rfl, Lib.hid (fun j hj => by omega), Lib.hid (Below.refl _ _)⟩
  case round =>
    obtain ⟨k, hk0, rfl, HN, HW⟩ := hrel
    have HJ := Lib.hid hk0
    have hk : k ≤ len := by omega
    clear hk0
    by_cases hlt : k < len
    · obtain ⟨x, hx⟩ : ∃ x, l[k]? = some x := ⟨_, List.getElem?_eq_getElem (by rw [HL.out]; exact hlt)⟩
      obtain ⟨b1, o1, ha, hbs, c0⟩ := HT.out.one HW.out (map_get hx)
      have HX := Lib.hid (HF.out x (List.mem_of_getElem? hx) wr HW.out)
      have HXX := Lib.hid hx
      subst ha
      clear hx HF
      by_cases hp : p x = true
      · rw [hp] at HX
        obtain rfl : r = (k : Int) := by rw [← HR.out]; exact idxF_here HXX.out hp HN.out
        clear hp
        go_wp2_with fail
        refine HX.out.mono ?_
        rintro e w1 ⟨rfl, hb⟩
        have HB := Lib.hid (below_on HW.out hb)
        clear hb
        go_wp2
        go_ret
        exact ⟨rfl, HB.out⟩
      · have hp' : p x = false := by simpa using hp
        rw [hp'] at HX
        have HN' : Hid (∀ j, j < k + 1 → ∀ y, l[j]? = some y → p y = false) := Lib.hid (fun j hj y hy => by
          by_cases hjk : j = k
          · subst hjk
            rw [HXX.out, Option.some.injEq] at hy
            rw [← hy]; exact hp'
          · exact HN.out j (by omega) y hy)
        clear hp hp'
        go_wp2_with fail
        refine HX.out.mono ?_
        rintro e w1 ⟨rfl, hb⟩
        have HB := Lib.hid (below_on HW.out hb)
        clear hb
        go_wp2_with fail
        go_roundg (len - (k + 1))
        case measure => have := HJ.out; omega
        case rel => exact ⟨k + 1, by omega, by go_num, HN', HB⟩
    · obtain rfl : k = len := by omega
      obtain rfl : r = -1 := by rw [← HR.out]; exact (idxF_none HL.out HN.out).1
      have HB := HW
      go_wp2
      go_ret
      exact ⟨rfl, HB.out⟩

set_option maxRecDepth 100000 in
set_option maxHeartbeats 1000000 in
theorem containsFunc_any (F : Nat) (q : Option Addr) (p : Int → Bool) (a : Option Addr) (len cap : Nat) (l : List Int) (w : World) (h : Tab w a len cap 1 (l.map iC))
    (hrun : ∀ (x : Int) (W : World), (callFunc F #[.int .i64 x, .pointer q]).run Try.prog W = .ok (.enter F #[.int .i64 x, .pointer q]) W)
    (hF : ∀ x ∈ l, ∀ W : World, Below w.heap.size w W → Calls Try.prog F #[.int .i64 x, .pointer q] W fun e w' => e = .returned (.bool (p x)) ∧ Below W.heap.size W w') :
    Calls Try.prog 71 #[.slice a len cap, .func (.func F) #[] #[.pointer q]] w fun e w' => e = .returned (.bool (l.any p)) ∧ Below w.heap.size w w' := by
  have HC := Lib.hid (indexFunc_any F q p a len cap l w h hrun hF)
  have HD := Lib.hid (idxF_le p l)
  clear h hF hrun
  generalize idxF p l = i at *
  go_enter Try.func71, Try.ntmps71
  go_wp2_with fail
  refine HC.out.mono ?_
  rintro e w1 ⟨rfl, hb⟩
  go_wp2
  go_ret
  exact ⟨by rw [← HD.out]; rfl, hb⟩
end Go.Proofs.Ytffgoekdjcempab

/- The contracts of the program's bloom.Has. -/
namespace Go.Proofs.Ytffgoekdjcempab
open Go.ChangeShapes Go.WideShapes Go.ChangeAt Go.RowKit
open Bloom Find

namespace Bloom
theorem any_has {B : List Bool} {ps : List Nat} (hl : ∀ p ∈ ps, p < B.length) : ((ps.map (fun p : Nat => (p : Int))).any (fun y => !(B.getD y.toNat false))) = !(hasB B ps) := by
  unfold hasB
  induction ps with
  | nil => rfl
  | cons p ps ih =>
    have ih := ih (fun q hq => hl q (List.mem_cons_of_mem _ hq))
    have hp := hl p (List.mem_cons_self ..)
    rw [List.map_cons, List.any_cons, List.all_cons, ih, Int.toNat_natCast, Bool.not_and]
    congr 1
    rw [List.getD_eq_getElem?_getD, List.getElem?_eq_getElem hp, Option.getD_some]
    cases B[p] <;> rfl
end Bloom

set_option maxRecDepth 100000 in
set_option maxHeartbeats 1000000 in
theorem hasClo_any (S K : Int) (a : Option Addr) (len cap : Nat) (B : List Bool) (X p : Nat) (w : World) (hT : Tab w a len cap 1 (B.map bC)) (hX : w.heap[X]? = some (.cells #[.int .i64 S, .int .i64 K, .slice a len cap] 24 (0, 0))) (hp : p < len) :
    Calls Try.prog 70 #[.int .i64 p, .pointer (some ⟨X, 0, none⟩)] w fun e w' => e = .returned (.bool (!(B.getD p false))) ∧ w = w' := by
  have hl := hT.hlen
  rw [List.length_map] at hl
  have hle := hT.hle
  have hm := hT.hmax
  unfold maxLen at hm
  obtain ⟨y, hy⟩ : ∃ y, B[p]? = some y := ⟨_, List.getElem?_eq_getElem (by omega)⟩
  have hg : B.getD p false = y := by rw [List.getD_eq_getElem?_getD, hy]; rfl
  rw [hg]
  obtain ⟨⟨c0, c1, c2⟩, _⟩ := three_cells hX
  obtain ⟨b1, o1, ha, hbs, d0⟩ := hT.one (Below.refl _ _) (map_get hy)
  subst ha
  clear hT hX hy hg hl
  go_enter Try.func70, Try.ntmps70
  go_wp2
  go_ret
  exact ⟨rfl, rfl⟩

set_option maxRecDepth 100000 in
set_option maxHeartbeats 2000000 in
theorem fhas_bad (S K : Int) (a : Option Addr) (len cap : Nat) (x : Int) (hm : len ≤ 9223372036854775807) (w : World) (hE : filterE S K len ≠ 0) :
    Calls Try.prog 44 #[filterV S K a len cap, .int .i64 x] w fun e w' => e = .returned (.tuple #[.bool false, .int .i64 (filterE S K len)]) ∧ Below w.heap.size w w' := by
  have HC := Lib.hid (fun W => fcheck_any S K a len cap hm W)
  have t : (filterE S K len != 0) = true := by simpa using hE
  unfold filterV at HC ⊢
  clear hE
  generalize filterE S K len = E at *
  have HB0 := Lib.hid (show Below w.heap.size w (w.alloc (.cells #[.int .i64 S, .int .i64 K, .slice a len cap] 24)) from (Below.refl _ _).alloc (Nat.le_refl _) _)
  go_enter Try.func44, Try.ntmps44
  go_wp2_with fail
  refine (HC.out _).mono ?_
  rintro e w1 ⟨rfl, hb1⟩
  have HB1 := Lib.hid (below_on HB0.out hb1)
  clear hb1
  go_wp2
  go_ret2
  exact ⟨rfl, HB1.out⟩

set_option maxRecDepth 100000 in
set_option maxHeartbeats 4000000 in
theorem fhas_ok (s k : Nat) (a : Option Addr) (len cap : Nat) (B : List Bool) (x : Int) (w : World) (hT : Tab w a len cap 1 (B.map bC)) (hE : filterE s k len = 0) :
    Calls Try.prog 44 #[filterV s k a len cap, .int .i64 x] w fun e w' => e = .returned (.tuple #[.bool (hasB B (places x s k)), .int .i64 0]) ∧ Below w.heap.size w w' := by
  obtain ⟨s', k', e1, e2, h1, h2, h3, h4, h5⟩ := filterE_zero hE
  obtain rfl : s' = s := by omega
  obtain rfl : k' = k := by omega
  clear e1 e2
  subst h5
  have hl := hT.hlen
  rw [List.length_map] at hl
  have hle := hT.hle
  have hmx := hT.hmax
  unfold maxLen at hmx
  have HC := fun W => fcheck_any len k' a len cap (by omega) W
  rw [hE] at HC
  have HC := Lib.hid HC
  have HP := Lib.hid (fun W => positions_any len k' a len cap x h1 h2 h3 h4 W)
  have HA := Lib.hid (any_has (B := B) (ps := places x len k') (fun p hp => by rw [hl]; exact places_lt h1 p hp))
  have HT := Lib.hid hT
  obtain ⟨h, hh⟩ : ∃ h, hasB B (places x len k') = h := ⟨_, rfl⟩
  rw [hh] at HA ⊢
  clear hh
  unfold filterV at HC HP ⊢
  have HB0 := Lib.hid (show Below w.heap.size w (w.alloc (.cells #[.int .i64 len, .int .i64 k', .slice a len cap] 24)) from (Below.refl _ _).alloc (Nat.le_refl _) _)
  have HX0 := Lib.hid (MapKept.heap_alloc w (.cells #[.int .i64 len, .int .i64 k', .slice a len cap] 24)).1
  clear hE hT hl
  go_enter Try.func44, Try.ntmps44
  go_wp2_with fail
  refine (HC.out _).mono ?_
  rintro e w1 ⟨rfl, hb1⟩
  have HB1 := Lib.hid (below_on HB0.out hb1)
  have K1 := Lib.hid (kept_blk3 hb1 HX0.out)
  obtain ⟨X, hX⟩ : ∃ X, w.heap.size = X := ⟨_, rfl⟩
  rw [hX] at K1 ⊢
  clear hb1 HC HB0 HX0
  obtain ⟨⟨a0, a1, a2⟩, _⟩ := three_cells K1.out
  go_wp2_with fail
  refine (HP.out _).mono ?_
  rintro e w2 ⟨v2, rfl, hO2, hb2⟩
  obtain ⟨q, c2, rfl, hT2⟩ := hO2.tab
  rw [List.length_map, placesI_len] at hT2 ⊢
  have HB2 := Lib.hid (below_on HB1.out hb2)
  replace K1 := Lib.hid (kept_blk3 hb2 K1.out)
  have C := containsFunc_any 70 (some ⟨X, 0, none⟩) (fun y => !(B.getD y.toNat false)) q k' c2 (placesI x len k') w2 hT2 (fun _ _ => rfl) (fun y hy W hb => by
    obtain ⟨p, hp, rfl⟩ := List.mem_map.1 hy
    rw [Int.toNat_natCast]
    refine (hasClo_any len k' a len cap B X p W ((HT.out.below HB2.out).below hb) (kept_blk3 hb K1.out) (places_lt h1 p hp)).mono ?_
    rintro e w' ⟨rfl, rfl⟩
    exact ⟨rfl, Below.refl _ _⟩)
  unfold placesI at C
  rw [HA.out] at C
  have C := Lib.hid C
  clear a0 a1 a2 hO2 hT2 hb2 HP HA HB1
  go_wp2_with fail
  refine C.out.mono ?_
  rintro e w3 ⟨rfl, hb3⟩
  have HB3 := Lib.hid (below_on HB2.out hb3)
  clear hb3 C
  go_wp2
  go_ret2
  exact ⟨by simp, HB3.out⟩
end Go.Proofs.Ytffgoekdjcempab

/- The contracts of the program's bloom.Join. -/
namespace Go.Proofs.Ytffgoekdjcempab
open Go.ChangeShapes Go.WideShapes Go.ChangeAt Go.RowKit
open Bloom

def joinFE (S K : Int) (n : Nat) (S2 K2 : Int) (n2 : Nat) : Int := if filterE S K n ≠ 0 then filterE S K n else if filterE S2 K2 n2 ≠ 0 then filterE S2 K2 n2 else if S ≠ S2 ∨ K ≠ K2 then 7 else 0

/-- three boxes, one upon another -/
structure Boxes (w w1 : World) (S K : Int) (v : Value) (S2 K2 : Int) (v2 : Value) : Prop where
  b : Below w.heap.size w w1
  k1 : w1.heap[w.heap.size]? = some (.cells #[.int .i64 S, .int .i64 K, v] 24 (0, 0))
  k2 : w1.heap[w.heap.size + 1]? = some (.cells #[.int .i64 S2, .int .i64 K2, v2] 24 (0, 0))
  k3 : w1.heap[w.heap.size + 2]? = some (.cells #[.int .i64 0, .int .i64 0, .slice none 0 0] 24 (0, 0))
theorem Boxes.new (w : World) (S K : Int) (v : Value) (S2 K2 : Int) (v2 : Value) : Boxes w (((w.alloc (.cells #[.int .i64 S, .int .i64 K, v] 24)).alloc (.cells #[.int .i64 S2, .int .i64 K2, v2] 24)).alloc (.cells #[.int .i64 0, .int .i64 0, .slice none 0 0] 24)) S K v S2 K2 v2 := by
  refine ⟨(((Below.refl _ _).alloc (Nat.le_refl _) _).alloc (by simp) _).alloc (by simp; omega) _, ?_, ?_, ?_⟩
  · rw [Below.heap_alloc _ _ _ (by simp; omega), Below.heap_alloc _ _ _ (by simp)]
    exact (MapKept.heap_alloc w _).1
  · rw [Below.heap_alloc _ _ _ (by simp)]
    have := (MapKept.heap_alloc (w.alloc (.cells #[.int .i64 S, .int .i64 K, v] 24)) (.cells #[.int .i64 S2, .int .i64 K2, v2] 24)).1
    simpa using this
  · have := (MapKept.heap_alloc ((w.alloc (.cells #[.int .i64 S, .int .i64 K, v] 24)).alloc (.cells #[.int .i64 S2, .int .i64 K2, v2] 24)) (.cells #[.int .i64 0, .int .i64 0, .slice none 0 0] 24)).1
    simpa using this
theorem Boxes.on {w w1 w2 : World} {S K : Int} {v : Value} {S2 K2 : Int} {v2 : Value} (h : Boxes w w1 S K v S2 K2 v2) (hb : Below w1.heap.size w1 w2) : Boxes w w2 S K v S2 K2 v2 :=
  ⟨below_on h.b hb, kept_blk3 hb h.k1, kept_blk3 hb h.k2, kept_blk3 hb h.k3⟩

set_option maxRecDepth 100000 in
set_option maxHeartbeats 4000000 in
theorem fjoin_bad (S K S2 K2 : Int) (a b : Option Addr) (len cap len2 cap2 : Nat) (hm : len ≤ 9223372036854775807) (hm2 : len2 ≤ 9223372036854775807) (w : World) (hE : joinFE S K len S2 K2 len2 ≠ 0) :
    Calls Try.prog 11 #[filterV S K a len cap, filterV S2 K2 b len2 cap2] w fun e w' => e = .returned (.tuple #[.agg #[.int .i64 0, .int .i64 0, .slice none 0 0], .int .i64 (joinFE S K len S2 K2 len2)]) ∧ Below w.heap.size w w' := by
  have HC1 := Lib.hid (fun W => fcheck_any S K a len cap hm W)
  have HC2 := Lib.hid (fun W => fcheck_any S2 K2 b len2 cap2 hm2 W)
  have HX := Lib.hid (Boxes.new w S K (.slice a len cap) S2 K2 (.slice b len2 cap2))
  unfold joinFE at hE ⊢
  unfold filterV at HC1 HC2 ⊢
  generalize filterE S K len = E1 at *
  generalize filterE S2 K2 len2 = E2 at *
  by_cases g1 : E1 ≠ 0
  · rw [if_pos g1]
    have t : (E1 != 0) = true := by simpa using g1
    clear hE g1
    go_enter Try.func11, Try.ntmps11
    go_wp2_with fail
    refine (HC1.out _).mono ?_
    rintro e w1 ⟨rfl, hb1⟩
    have HY := Lib.hid (HX.out.on hb1)
    clear hb1 HX HC1 HC2
    obtain ⟨⟨c0, c1, c2⟩, f0, f1, f2⟩ := three_cells HY.out.k3
    have Z := three_cells (three_set (x' := 0) (y' := 0) (v' := .slice none 0 0) HY.out.k3)
    have hb3 : Below w.heap.size w _ := ((HY.out.b.setCell (p := ⟨w.heap.size + 2, 0, none⟩) (by show w.heap.size ≤ w.heap.size + 2; omega) (.int .i64 0)).setCell (p := ⟨w.heap.size + 2, 1, none⟩) (by show w.heap.size ≤ w.heap.size + 2; omega) (.int .i64 0)).setCell (p := ⟨w.heap.size + 2, 2, none⟩) (by show w.heap.size ≤ w.heap.size + 2; omega) (.slice none 0 0)
    go_wp2_with fail
    obtain ⟨⟨z0, z1, z2⟩, _⟩ := Z
    generalize (((w1.setCell { block := w.heap.size + 2, off := 0 } (Value.int IntKind.i64 0)).setCell { block := w.heap.size + 2, off := 1 } (Value.int IntKind.i64 0)).setCell { block := w.heap.size + 2, off := 2 } (Value.slice none 0 0)) = w3 at *
    clear c0 c1 c2 f0 f1 f2 HY
    try simp only [Exit.inBlock, Exit.then]
    refine bodyPost_ret (by simp [results, Try.results11, go_sem, z0, z1, z2, Result.andThen]; try rfl) rfl ?_
    exact ⟨rfl, hb3⟩
  obtain rfl : E1 = 0 := by omega
  rw [if_neg g1] at hE ⊢
  by_cases g2 : E2 ≠ 0
  · rw [if_pos g2]
    have t : (E2 != 0) = true := by simpa using g2
    clear hE g2 g1
    go_enter Try.func11, Try.ntmps11
    go_wp2_with fail
    refine (HC1.out _).mono ?_
    rintro e w1 ⟨rfl, hb1⟩
    have HY := Lib.hid (HX.out.on hb1)
    clear hb1 HX HC1
    obtain ⟨⟨c0, c1, c2⟩, _⟩ := three_cells HY.out.k2
    go_wp2_with fail
    clear c0 c1 c2
    refine (HC2.out _).mono ?_
    rintro e w2 ⟨rfl, hb2⟩
    replace HY := Lib.hid (HY.out.on hb2)
    clear hb2 HC2
    obtain ⟨⟨c0, c1, c2⟩, f0, f1, f2⟩ := three_cells HY.out.k3
    have Z := three_cells (three_set (x' := 0) (y' := 0) (v' := .slice none 0 0) HY.out.k3)
    have hb3 : Below w.heap.size w _ := ((HY.out.b.setCell (p := ⟨w.heap.size + 2, 0, none⟩) (by show w.heap.size ≤ w.heap.size + 2; omega) (.int .i64 0)).setCell (p := ⟨w.heap.size + 2, 1, none⟩) (by show w.heap.size ≤ w.heap.size + 2; omega) (.int .i64 0)).setCell (p := ⟨w.heap.size + 2, 2, none⟩) (by show w.heap.size ≤ w.heap.size + 2; omega) (.slice none 0 0)
    go_wp2_with fail
    obtain ⟨⟨z0, z1, z2⟩, _⟩ := Z
    generalize (((w2.setCell { block := w.heap.size + 2, off := 0 } (Value.int IntKind.i64 0)).setCell { block := w.heap.size + 2, off := 1 } (Value.int IntKind.i64 0)).setCell { block := w.heap.size + 2, off := 2 } (Value.slice none 0 0)) = w3 at *
    clear c0 c1 c2 f0 f1 f2 HY
    try simp only [Exit.inBlock, Exit.then]
    refine bodyPost_ret (by simp [results, Try.results11, go_sem, z0, z1, z2, Result.andThen]; try rfl) rfl ?_
    exact ⟨rfl, hb3⟩
  obtain rfl : E2 = 0 := by omega
  rw [if_neg g2] at hE ⊢
  have g3 : S ≠ S2 ∨ K ≠ K2 := by
    by_cases g : S ≠ S2 ∨ K ≠ K2
    · exact g
    · rw [if_neg g] at hE; exact absurd rfl hE
  rw [if_pos g3]
  obtain ⟨t, ht⟩ : ∃ t : Bool, (S != S2) = t := ⟨_, rfl⟩
  have ht2 : t = false → (K != K2) = true := by
    intro h0
    rw [h0] at ht
    rcases g3 with h | h
    · exact absurd (by simpa using ht) h
    · simpa using h
  clear hE g1 g2 g3
  go_enter Try.func11, Try.ntmps11
  go_wp2_with fail
  refine (HC1.out _).mono ?_
  rintro e w1 ⟨rfl, hb1⟩
  have HY := Lib.hid (HX.out.on hb1)
  clear hb1 HX HC1
  obtain ⟨⟨c0, c1, c2⟩, _⟩ := three_cells HY.out.k2
  go_wp2_with fail
  clear c0 c1 c2
  refine (HC2.out _).mono ?_
  rintro e w2 ⟨rfl, hb2⟩
  replace HY := Lib.hid (HY.out.on hb2)
  clear hb2 HC2
  obtain ⟨⟨a0, a1, a2⟩, _⟩ := three_cells HY.out.k1
  obtain ⟨⟨b0, b1, b2⟩, _⟩ := three_cells HY.out.k2
  obtain ⟨⟨c0, c1, c2⟩, f0, f1, f2⟩ := three_cells HY.out.k3
  have Z := three_cells (three_set (x' := 0) (y' := 0) (v' := .slice none 0 0) HY.out.k3)
  have hb3 : Below w.heap.size w _ := ((HY.out.b.setCell (p := ⟨w.heap.size + 2, 0, none⟩) (by show w.heap.size ≤ w.heap.size + 2; omega) (.int .i64 0)).setCell (p := ⟨w.heap.size + 2, 1, none⟩) (by show w.heap.size ≤ w.heap.size + 2; omega) (.int .i64 0)).setCell (p := ⟨w.heap.size + 2, 2, none⟩) (by show w.heap.size ≤ w.heap.size + 2; omega) (.slice none 0 0)
  cases t
  · have ht3 := ht2 rfl
    clear ht2
    go_wp2_with fail
    obtain ⟨⟨z0, z1, z2⟩, _⟩ := Z
    generalize (((w2.setCell { block := w.heap.size + 2, off := 0 } (Value.int IntKind.i64 0)).setCell { block := w.heap.size + 2, off := 1 } (Value.int IntKind.i64 0)).setCell { block := w.heap.size + 2, off := 2 } (Value.slice none 0 0)) = w3 at *
    clear c0 c1 c2 f0 f1 f2 HY
    try simp only [Exit.inBlock, Exit.then]
    refine bodyPost_ret (by simp [results, Try.results11, go_sem, z0, z1, z2, Result.andThen]; try rfl) rfl ?_
    exact ⟨rfl, hb3⟩
  · clear ht2
    go_wp2_with fail
    obtain ⟨⟨z0, z1, z2⟩, _⟩ := Z
    generalize (((w2.setCell { block := w.heap.size + 2, off := 0 } (Value.int IntKind.i64 0)).setCell { block := w.heap.size + 2, off := 1 } (Value.int IntKind.i64 0)).setCell { block := w.heap.size + 2, off := 2 } (Value.slice none 0 0)) = w3 at *
    clear c0 c1 c2 f0 f1 f2 HY
    try simp only [Exit.inBlock, Exit.then]
    refine bodyPost_ret (by simp [results, Try.results11, go_sem, z0, z1, z2, Result.andThen]; try rfl) rfl ?_
    exact ⟨rfl, hb3⟩

set_option maxRecDepth 100000 in
set_option maxHeartbeats 4000000 in
theorem fjoin_ok (s k : Nat) (a b : Option Addr) (len cap len2 cap2 : Nat) (B C : List Bool) (w : World) (hT : Tab w a len cap 1 (B.map bC)) (hT2 : Tab w b len2 cap2 1 (C.map bC)) (hE : filterE s k len = 0) (hE2 : filterE s k len2 = 0) :
    Calls Try.prog 11 #[filterV s k a len cap, filterV s k b len2 cap2] w fun e w' => ∃ v, e = .returned (.tuple #[.agg #[.int .i64 s, .int .i64 k, v], .int .i64 0]) ∧ Own w' w.heap.size 4 1 v ((orB B C).map bC) ∧ Below w.heap.size w w' := by
  obtain ⟨s', k', e1, e2, h1, h2, h3, h4, h5⟩ := filterE_zero hE
  obtain ⟨s'', k'', e1', e2', _, _, _, _, h6⟩ := filterE_zero hE2
  obtain rfl : s' = s := by omega
  obtain rfl : k' = k := by omega
  have h7 : len = len2 := by omega
  clear e1 e2 e1' e2' h6
  subst h5
  subst h7
  have hl := hT.hlen
  have hl2 := hT2.hlen
  rw [List.length_map] at hl hl2
  have HL := Lib.hid (And.intro hl hl2)
  have hle := hT.hle
  have hmx := hT.hmax
  have hle2 := hT2.hle
  have hmx2 := hT2.hmax
  unfold maxLen at hmx hmx2
  have HC1 := fun W => fcheck_any len k' a len cap (by omega) W
  have HC2 := fun W => fcheck_any len k' b len cap2 (by omega) W
  rw [hE] at HC1 HC2
  replace HC1 := Lib.hid HC1
  replace HC2 := Lib.hid HC2
  have HCl := Lib.hid (fun W (h : Tab W a len cap 1 (B.map bC)) => clone_bools a len cap B W h (by omega))
  have HX := Lib.hid (Boxes.new w len k' (.slice a len cap) len k' (.slice b len cap2))
  have HT := Lib.hid hT
  have HT2 := Lib.hid hT2
  unfold filterV at HC1 HC2 ⊢
  have t1 : ((len : Int) != (len : Int)) = false := by simp
  have t2 : ((k' : Int) != (k' : Int)) = false := by simp
  clear hE hE2 hT hT2 hl hl2 hmx hmx2 hle hle2
  go_enter Try.func11, Try.ntmps11
  go_wp2_with fail
  refine (HC1.out _).mono ?_
  rintro e w1 ⟨rfl, hb1⟩
  have HY := Lib.hid (HX.out.on hb1)
  clear hb1 HX HC1
  obtain ⟨⟨c0, c1, c2⟩, _⟩ := three_cells HY.out.k2
  go_wp2_with fail
  clear c0 c1 c2
  refine (HC2.out _).mono ?_
  rintro e w2 ⟨rfl, hb2⟩
  replace HY := Lib.hid (HY.out.on hb2)
  clear hb2 HC2
  obtain ⟨⟨a0, a1, a2⟩, _⟩ := three_cells HY.out.k1
  obtain ⟨⟨b0, b1, b2⟩, _⟩ := three_cells HY.out.k2
  go_wp2_with fail
  refine (HCl.out _ (HT.out.below HY.out.b)).mono ?_
  rintro e w3 ⟨v3, rfl, hO3, hb3⟩
  clear a0 a1 a2 b0 b1 b2
  obtain ⟨g, c3, rfl, hg1, hg2⟩ := own_spotB hO3 (by rw [HL.out.1]; omega)
  rw [HL.out.1] at hO3 ⊢
  have hs2 : w.heap.size + 2 < w2.heap.size := (Array.getElem?_eq_some_iff.1 HY.out.k3).1
  have HY3 := Lib.hid (HY.out.on hb3)
  have hB : (B.map bC) = ((orTo B C 0).map bC) := by rw [orTo_zero]
  rw [hB] at hO3
  have HO3 := Lib.hid hO3
  obtain ⟨B1, hB1⟩ : ∃ n, w2.heap.size = n := ⟨_, rfl⟩
  rw [hB1] at HO3 hg1 hs2
  have HGG := Lib.hid (And.intro hs2 hg1)
  obtain ⟨X, hX⟩ : ∃ X, w.heap.size = X := ⟨_, rfl⟩
  have hY4 := HY3.out
  have hbw := Lib.hid hY4.b
  have K1 := Lib.hid hY4.k1
  have K2 := Lib.hid hY4.k2
  have K3 := Lib.hid hY4.k3
  rw [hX] at K1 K2 K3 HGG ⊢
  rw [show X + 1 + 1 = X + 2 from rfl]
  have HXX := Lib.hid hX
  clear hb3 hO3 hg1 hg2 hs2 HY HY3 hY4 hB hB1 hX HCl
  obtain ⟨⟨b0, b1, b2⟩, _⟩ := three_cells K2.out
  go_wp2_with fail
  clear b0 b1 b2
  go_loopg [42] len (fun n i wr => ∃ j : Nat, j + n = len ∧ i = .int .i64 j ∧ Hid (Own wr B1 4 1 (.slice (some ⟨g, 0, none⟩) len c3) ((orTo B C j).map bC)) ∧ Hid (wr.heap[X]? = some (.cells #[.int .i64 len, .int .i64 k', .slice a len cap] 24 (0, 0))) ∧ Hid (wr.heap[X + 2]? = some (.cells #[.int .i64 0, .int .i64 0, .slice none 0 0] 24 (0, 0))) ∧ Hid (Below w.heap.size w wr))
  case atStart => exact ⟨0, by omega, rfl, HO3, K1, K3, hbw⟩
  case round =>
    clear HO3 K1 K2 K3 hbw
    obtain ⟨j, hj0, rfl, HO, K1, K3, HW⟩ := hrel
    have HJ := Lib.hid hj0
    have hj : j ≤ len := by omega
    clear hj0
    by_cases hlt : j < len
    · obtain ⟨y, hy⟩ : ∃ y, B[j]? = some y := ⟨_, List.getElem?_eq_getElem (by rw [HL.out.1]; exact hlt)⟩
      obtain ⟨z, hz⟩ : ∃ y, C[j]? = some y := ⟨_, List.getElem?_eq_getElem (by rw [HL.out.2]; exact hlt)⟩
      have hBC : B.length = C.length := by rw [HL.out.1, HL.out.2]
      obtain ⟨b1, o1, ha, hbs, c0⟩ := HT2.out.one HW.out (map_get hz)
      have hN := orTo_succ hBC hy hz
      have hyy := orTo_get hBC hy
      obtain ⟨d1, d2, _, _⟩ := HO.out.at1 (map_get hyy)
      have hS := HO.out.set1 (map_get hyy) (.bool (y || z))
      rw [← show bC (y || z) = [Value.bool (y || z)] from rfl, ← List.map_set, hN] at hS
      have HS := Lib.hid hS
      have HW2 := Lib.hid (HW.out.setCell (p := ⟨g, j, none⟩) (by show w.heap.size ≤ g; rw [HXX.out]; have := HGG.out; omega) (.bool (y || z)))
      have J1 := Lib.hid (blk_else3 (a := ⟨g, j, none⟩) (v := .bool (y || z)) K1.out (by show X ≠ g; have := HGG.out; omega))
      have J3 := Lib.hid (blk_else3 (a := ⟨g, j, none⟩) (v := .bool (y || z)) K3.out (by show X + 2 ≠ g; have := HGG.out; omega))
      subst ha
      clear hy hz hBC hN hyy hS
      cases y
      · simp only [Bool.false_or] at HS HW2 J1 J3
        go_wp2_with fail
        go_roundg (len - (j + 1))
        case measure => have := HJ.out; omega
        case rel => exact ⟨j + 1, by omega, by go_num, HS, J1, J3, HW2⟩
      · simp only [Bool.true_or] at HS HW2 J1 J3
        go_wp2_with fail
        go_roundg (len - (j + 1))
        case measure => have := HJ.out; omega
        case rel => exact ⟨j + 1, by omega, by go_num, HS, J1, J3, HW2⟩
    · obtain rfl : j = len := by omega
      have hBC : B.length = C.length := by rw [HL.out.1, HL.out.2]
      have hj2 : j = C.length := HL.out.2.symm
      have HO2 : Hid (Own wr B1 4 1 (.slice (some ⟨g, 0, none⟩) j c3) ((orB B C).map bC)) := Lib.hid (by have := HO.out; rw [show orTo B C j = orB B C from by rw [hj2]; exact orTo_all hBC] at this; exact this)
      obtain ⟨⟨a0, a1, a2⟩, _⟩ := three_cells K1.out
      obtain ⟨⟨c0, c1, c2⟩, f0, f1, f2⟩ := three_cells K3.out
      have Z := three_cells (three_set (x' := j) (y' := k') (v' := .slice (some ⟨g, 0, none⟩) j c3) K3.out)
      have hXB : X + 2 < B1 := HGG.out.1
      have hXX : w.heap.size ≤ X + 2 := by rw [HXX.out]; omega
      have HOZ := Lib.hid ((((HO2.out.setCell (a := ⟨X + 2, 0, none⟩) hXB (.int .i64 j)).setCell (a := ⟨X + 2, 1, none⟩) hXB (.int .i64 k')).setCell (a := ⟨X + 2, 2, none⟩) hXB (.slice (some ⟨g, 0, none⟩) j c3)).base_le (B := w.heap.size) (by rw [HXX.out]; omega))
      have HBZ := Lib.hid (((HW.out.setCell (p := ⟨X + 2, 0, none⟩) hXX (.int .i64 j)).setCell (p := ⟨X + 2, 1, none⟩) hXX (.int .i64 k')).setCell (p := ⟨X + 2, 2, none⟩) hXX (.slice (some ⟨g, 0, none⟩) j c3))
      have HZ := Lib.hid Z.1
      clear Z HO HO2 HW hXX hXB hj2 hBC
      go_wp2_with fail
      obtain ⟨z0, z1, z2⟩ := HZ.out
      generalize (((wr.setCell { block := X + 2, off := 0 } (Value.int IntKind.i64 j)).setCell { block := X + 2, off := 1 } (Value.int IntKind.i64 k')).setCell { block := X + 2, off := 2 } (Value.slice (some { block := g, off := 0 }) j c3)) = w5 at *
      clear c0 c1 c2 f0 f1 f2 a0 a1 a2 HZ
      try simp only [Exit.inBlock, Exit.then]
      refine bodyPost_ret (by simp [results, Try.results11, go_sem, z0, z1, z2, Result.andThen]; try rfl) rfl ?_
      exact ⟨_, rfl, HOZ.out, HBZ.out⟩
end Go.Proofs.Ytffgoekdjcempab

/- The contracts of the program's bloom.Put, bloom.Has and bloom.Join whatever is handed in; and filters in variables. -/
namespace Go.Proofs.Ytffgoekdjcempab
open Go.ChangeShapes Go.WideShapes Go.ChangeAt Go.RowKit
open Bloom

/-- a filter in a variable that is written no more -/
def SF (w : World) (X : Nat) (S K : Int) (q : Option Addr) (n c : Nat) (B : List Bool) : Prop := w.heap[X]? = some (.cells #[.int .i64 S, .int .i64 K, .slice q n c] 24 (0, 0)) ∧ Tab w q n c 1 (B.map bC)
theorem SF.below {w w' : World} {X : Nat} {S K : Int} {q : Option Addr} {n c : Nat} {B : List Bool} (h : SF w X S K q n c B) (hb : Below w.heap.size w w') : SF w' X S K q n c B := ⟨kept_blk3 hb h.1, h.2.below hb⟩
theorem SF.new {w : World} {base : Nat} {S K : Int} {q : Option Addr} {n c : Nat} {B : List Bool} (h : Own w base 4 1 (.slice q n c) (B.map bC)) : SF (w.alloc (.cells #[.int .i64 S, .int .i64 K, .slice q n c] 24)) w.heap.size S K q n c B ∧ Below w.heap.size w (w.alloc (.cells #[.int .i64 S, .int .i64 K, .slice q n c] 24)) :=
  ⟨⟨(MapKept.heap_alloc w _).1, (h.alloc _).tab_of⟩, (Below.refl _ _).alloc (Nat.le_refl _) _⟩
theorem SF.cells {w : World} {X : Nat} {S K : Int} {q : Option Addr} {n c : Nat} {B : List Bool} (h : SF w X S K q n c B) : w.cell? ⟨X, 0, none⟩ = some (.int .i64 S) ∧ w.cell? ⟨X, 1, none⟩ = some (.int .i64 K) ∧ w.cell? ⟨X, 2, none⟩ = some (.slice q n c) := (three_cells h.1).1
theorem tab_len {w : World} {a : Option Addr} {len cap k : Nat} {R : List (List Value)} (h : Tab w a len cap k R) : len ≤ 9223372036854775807 := by
  have h1 := h.hle
  have h2 := h.hmax
  unfold maxLen at h2
  exact Nat.le_trans h1 h2

theorem fput_all (S K : Int) (a : Option Addr) (len cap : Nat) (B : List Bool) (x : Int) : ∃ (S' K' : Int) (B' : List Bool), Hid ((filterE S K len ≠ 0 ∧ S' = 0 ∧ K' = 0 ∧ B' = []) ∨ (filterE S K len = 0 ∧ S' = S ∧ K' = K ∧ B' = putB B (places x S.toNat K.toNat))) ∧
    Hid (∀ W : World, Tab W a len cap 1 (B.map bC) → Calls Try.prog 10 #[.agg #[.int .i64 S, .int .i64 K, .slice a len cap], .int .i64 x] W fun e w' => ∃ v, e = .returned (.tuple #[.agg #[.int .i64 S', .int .i64 K', v], .int .i64 (filterE S K len)]) ∧ Own w' W.heap.size 4 1 v (B'.map bC) ∧ Below W.heap.size W w') := by
  by_cases hE : filterE S K len = 0
  · obtain ⟨s, k, rfl, rfl, _⟩ := filterE_zero hE
    refine ⟨s, k, _, Lib.hid (Or.inr ⟨hE, rfl, rfl, rfl⟩), Lib.hid (fun W hT => ?_)⟩
    rw [hE, Int.toNat_natCast, Int.toNat_natCast]
    exact fput_ok s k a len cap B x W hT hE
  · refine ⟨0, 0, [], Lib.hid (Or.inl ⟨hE, rfl, rfl, rfl⟩), Lib.hid (fun W hT => ?_)⟩
    refine (fput_bad S K a len cap x (tab_len hT) W hE).mono ?_
    rintro e w' ⟨rfl, hb⟩
    exact ⟨_, rfl, Own.nil _ _ _ _, hb⟩

theorem fhas_all (S K : Int) (a : Option Addr) (len cap : Nat) (B : List Bool) (x : Int) : ∃ h : Bool, Hid ((filterE S K len ≠ 0 ∧ h = false) ∨ (filterE S K len = 0 ∧ h = hasB B (places x S.toNat K.toNat))) ∧
    Hid (∀ W : World, Tab W a len cap 1 (B.map bC) → Calls Try.prog 44 #[.agg #[.int .i64 S, .int .i64 K, .slice a len cap], .int .i64 x] W fun e w' => e = .returned (.tuple #[.bool h, .int .i64 (filterE S K len)]) ∧ Below W.heap.size W w') := by
  by_cases hE : filterE S K len = 0
  · obtain ⟨s, k, rfl, rfl, _⟩ := filterE_zero hE
    refine ⟨_, Lib.hid (Or.inr ⟨hE, rfl⟩), Lib.hid (fun W hT => ?_)⟩
    rw [hE, Int.toNat_natCast, Int.toNat_natCast]
    exact fhas_ok s k a len cap B x W hT hE
  · refine ⟨false, Lib.hid (Or.inl ⟨hE, rfl⟩), Lib.hid (fun W hT => ?_)⟩
    exact fhas_bad S K a len cap x (tab_len hT) W hE

theorem joinFE_zero {S K S2 K2 : Int} {n n2 : Nat} (h : joinFE S K n S2 K2 n2 = 0) : filterE S K n = 0 ∧ filterE S2 K2 n2 = 0 ∧ S2 = S ∧ K2 = K ∧ n2 = n := by
  unfold joinFE at h
  split at h
  · omega
  · split at h
    · omega
    · split at h
      · cases h
      · obtain ⟨s, k, h1, h2, _, _, _, _, h3⟩ := filterE_zero (S := S) (K := K) (n := n) (by omega)
        obtain ⟨s', k', h4, h5, _, _, _, _, h6⟩ := filterE_zero (S := S2) (K := K2) (n := n2) (by omega)
        exact ⟨by omega, by omega, by omega, by omega, by omega⟩
theorem fjoin_all (S K S2 K2 : Int) (a b : Option Addr) (len cap len2 cap2 : Nat) (B C : List Bool) : ∃ (S' K' : Int) (D : List Bool), Hid ((joinFE S K len S2 K2 len2 ≠ 0 ∧ S' = 0 ∧ K' = 0 ∧ D = []) ∨ (joinFE S K len S2 K2 len2 = 0 ∧ S' = S ∧ K' = K ∧ D = orB B C)) ∧
    Hid (∀ W : World, Tab W a len cap 1 (B.map bC) → Tab W b len2 cap2 1 (C.map bC) → Calls Try.prog 11 #[.agg #[.int .i64 S, .int .i64 K, .slice a len cap], .agg #[.int .i64 S2, .int .i64 K2, .slice b len2 cap2]] W fun e w' => ∃ v, e = .returned (.tuple #[.agg #[.int .i64 S', .int .i64 K', v], .int .i64 (joinFE S K len S2 K2 len2)]) ∧ Own w' W.heap.size 4 1 v (D.map bC) ∧ Below W.heap.size W w') := by
  by_cases hE : joinFE S K len S2 K2 len2 = 0
  · refine ⟨S, K, _, Lib.hid (Or.inr ⟨hE, rfl, rfl, rfl⟩), Lib.hid (fun W hT hT2 => ?_)⟩
    rw [hE]
    obtain ⟨h1, h2, rfl, rfl, h3⟩ := joinFE_zero hE
    obtain ⟨s, k, rfl, rfl, _⟩ := filterE_zero h1
    exact fjoin_ok s k a b len cap len2 cap2 B C W hT hT2 h1 h2
  · refine ⟨0, 0, [], Lib.hid (Or.inl ⟨hE, rfl, rfl, rfl⟩), Lib.hid (fun W hT hT2 => ?_)⟩
    refine (fjoin_bad S K S2 K2 a b len cap len2 cap2 (tab_len hT) (tab_len hT2) W hE).mono ?_
    rintro e w' ⟨rfl, hb⟩
    exact ⟨_, rfl, Own.nil _ _ _ _, hb⟩
end Go.Proofs.Ytffgoekdjcempab
