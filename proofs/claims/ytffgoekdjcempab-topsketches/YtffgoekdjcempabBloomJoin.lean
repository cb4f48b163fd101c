/- The contracts of the program's bloom.Join. -/
import Derived.Test.YtffgoekdjcempabBloomPut
namespace Go.Proofs.Ytffgoekdjcempab
open Go.ChangeShapes Go.WideShapes Go.ChangeAt Go.RowKit
open Bloom

def joinFE (S K : Int) (n : Nat) (S2 K2 : Int) (n2 : Nat) : Int := if filterE S K n ≠ 0 then filterE S K n else if filterE S2 K2 n2 ≠ 0 then filterE S2 K2 n2 else if S ≠ S2 ∨ K ≠ K2 then 7 else 0

/-- three boxes, one upon another -/
structure Boxes (w w1 : World) (S K : Int) (v : Value) (S2 K2 : Int) (v2 : Value) : Prop where
  b : Below w.heap.size w w1
  k1 : w1.heap[w.heap.size]? = some (.cells #[.int .i64 S, .int .i64 K, v] 24 (0, 0))
  k2 : w1.heap[w.heap.size + 1]? = some (.cells #[.int .i64 S2, .int .i64 K2, v2] 24 (0, 0))
  k3 : w1.heap[w.heap.size + 2]? = some (.cells #[.int .i64 0, .int .i64 0, .slice none 0 0] 24 (0, 0))
theorem Boxes.new (w : World) (S K : Int) (v : Value) (S2 K2 : Int) (v2 : Value) : Boxes w (((w.alloc (.cells #[.int .i64 S, .int .i64 K, v] 24)).alloc (.cells #[.int .i64 S2, .int .i64 K2, v2] 24)).alloc (.cells #[.int .i64 0, .int .i64 0, .slice none 0 0] 24)) S K v S2 K2 v2 := by
  refine ⟨(((Below.refl _ _).alloc (Nat.le_refl _) _).alloc (by simp) _).alloc (by simp; omega) _, ?_, ?_, ?_⟩
  · rw [Below.heap_alloc _ _ _ (by simp; omega), Below.heap_alloc _ _ _ (by simp)]
    exact (MapKept.heap_alloc w _).1
  · rw [Below.heap_alloc _ _ _ (by simp)]
    have := (MapKept.heap_alloc (w.alloc (.cells #[.int .i64 S, .int .i64 K, v] 24)) (.cells #[.int .i64 S2, .int .i64 K2, v2] 24)).1
    simpa using this
  · have := (MapKept.heap_alloc ((w.alloc (.cells #[.int .i64 S, .int .i64 K, v] 24)).alloc (.cells #[.int .i64 S2, .int .i64 K2, v2] 24)) (.cells #[.int .i64 0, .int .i64 0, .slice none 0 0] 24)).1
    simpa using this
theorem Boxes.on {w w1 w2 : World} {S K : Int} {v : Value} {S2 K2 : Int} {v2 : Value} (h : Boxes w w1 S K v S2 K2 v2) (hb : Below w1.heap.size w1 w2) : Boxes w w2 S K v S2 K2 v2 :=
  ⟨below_on h.b hb, kept_blk3 hb h.k1, kept_blk3 hb h.k2, kept_blk3 hb h.k3⟩

set_option maxRecDepth 100000 in
set_option maxHeartbeats 4000000 in
theorem fjoin_bad (S K S2 K2 : Int) (a b : Option Addr) (len cap len2 cap2 : Nat) (hm : len ≤ 9223372036854775807) (hm2 : len2 ≤ 9223372036854775807) (w : World) (hE : joinFE S K len S2 K2 len2 ≠ 0) :
    Calls Try.prog 11 #[filterV S K a len cap, filterV S2 K2 b len2 cap2] w fun e w' => e = .returned (.tuple #[.agg #[.int .i64 0, .int .i64 0, .slice none 0 0], .int .i64 (joinFE S K len S2 K2 len2)]) ∧ Below w.heap.size w w' := by
  have HC1 := Lib.hid (fun W => fcheck_any S K a len cap hm W)
  have HC2 := Lib.hid (fun W => fcheck_any S2 K2 b len2 cap2 hm2 W)
  have HX := Lib.hid (Boxes.new w S K (.slice a len cap) S2 K2 (.slice b len2 cap2))
  unfold joinFE at hE ⊢
  unfold filterV at HC1 HC2 ⊢
  generalize filterE S K len = E1 at *
  generalize filterE S2 K2 len2 = E2 at *
  by_cases g1 : E1 ≠ 0
  · rw [if_pos g1]
    have t : (E1 != 0) = true := by simpa using g1
    clear hE g1
    go_enter Try.func11, Try.ntmps11
    go_wp2_with fail
    refine (HC1.out _).mono ?_
    rintro e w1 ⟨rfl, hb1⟩
    have HY := Lib.hid (HX.out.on hb1)
    clear hb1 HX HC1 HC2
    obtain ⟨⟨c0, c1, c2⟩, f0, f1, f2⟩ := three_cells HY.out.k3
    have Z := three_cells (three_set (x' := 0) (y' := 0) (v' := .slice none 0 0) HY.out.k3)
    have hb3 : Below w.heap.size w _ := ((HY.out.b.setCell (p := ⟨w.heap.size + 2, 0, none⟩) (by show w.heap.size ≤ w.heap.size + 2; omega) (.int .i64 0)).setCell (p := ⟨w.heap.size + 2, 1, none⟩) (by show w.heap.size ≤ w.heap.size + 2; omega) (.int .i64 0)).setCell (p := ⟨w.heap.size + 2, 2, none⟩) (by show w.heap.size ≤ w.heap.size + 2; omega) (.slice none 0 0)
    go_wp2_with fail
    obtain ⟨⟨z0, z1, z2⟩, _⟩ := Z
    generalize (((w1.setCell { block := w.heap.size + 2, off := 0 } (Value.int IntKind.i64 0)).setCell { block := w.heap.size + 2, off := 1 } (Value.int IntKind.i64 0)).setCell { block := w.heap.size + 2, off := 2 } (Value.slice none 0 0)) = w3 at *
    clear c0 c1 c2 f0 f1 f2 HY
    try simp only [Exit.inBlock, Exit.then]
    refine bodyPost_ret (by simp [results, Try.results11, go_sem, z0, z1, z2, Result.andThen]; try rfl) rfl ?_
    exact ⟨rfl, hb3⟩
  obtain rfl : E1 = 0 := by omega
  rw [if_neg g1] at hE ⊢
  by_cases g2 : E2 ≠ 0
  · rw [if_pos g2]
    have t : (E2 != 0) = true := by simpa using g2
    clear hE g2 g1
    go_enter Try.func11, Try.ntmps11
    go_wp2_with fail
    refine (HC1.out _).mono ?_
    rintro e w1 ⟨rfl, hb1⟩
    have HY := Lib.hid (HX.out.on hb1)
    clear hb1 HX HC1
    obtain ⟨⟨c0, c1, c2⟩, _⟩ := three_cells HY.out.k2
    go_wp2_with fail
    clear c0 c1 c2
    refine (HC2.out _).mono ?_
    rintro e w2 ⟨rfl, hb2⟩
    replace HY := Lib.hid (HY.out.on hb2)
    clear hb2 HC2
    obtain ⟨⟨c0, c1, c2⟩, f0, f1, f2⟩ := three_cells HY.out.k3
    have Z := three_cells (three_set (x' := 0) (y' := 0) (v' := .slice none 0 0) HY.out.k3)
    have hb3 : Below w.heap.size w _ := ((HY.out.b.setCell (p := ⟨w.heap.size + 2, 0, none⟩) (by show w.heap.size ≤ w.heap.size + 2; omega) (.int .i64 0)).setCell (p := ⟨w.heap.size + 2, 1, none⟩) (by show w.heap.size ≤ w.heap.size + 2; omega) (.int .i64 0)).setCell (p := ⟨w.heap.size + 2, 2, none⟩) (by show w.heap.size ≤ w.heap.size + 2; omega) (.slice none 0 0)
    go_wp2_with fail
    obtain ⟨⟨z0, z1, z2⟩, _⟩ := Z
    generalize (((w2.setCell { block := w.heap.size + 2, off := 0 } (Value.int IntKind.i64 0)).setCell { block := w.heap.size + 2, off := 1 } (Value.int IntKind.i64 0)).setCell { block := w.heap.size + 2, off := 2 } (Value.slice none 0 0)) = w3 at *
    clear c0 c1 c2 f0 f1 f2 HY
    try simp only [Exit.inBlock, Exit.then]
    refine bodyPost_ret (by simp [results, Try.results11, go_sem, z0, z1, z2, Result.andThen]; try rfl) rfl ?_
    exact ⟨rfl, hb3⟩
  obtain rfl : E2 = 0 := by omega
  rw [if_neg g2] at hE ⊢
  have g3 : S ≠ S2 ∨ K ≠ K2 := by
    by_cases g : S ≠ S2 ∨ K ≠ K2
    · exact g
    · rw [if_neg g] at hE; exact absurd rfl hE
  rw [if_pos g3]
  obtain ⟨t, ht⟩ : ∃ t : Bool, (S != S2) = t := ⟨_, rfl⟩
  have ht2 : t = false → (K != K2) = true := by
    intro h0
    rw [h0] at ht
    rcases g3 with h | h
    · exact absurd (by simpa using ht) h
    · simpa using h
  clear hE g1 g2 g3
  go_enter Try.func11, Try.ntmps11
  go_wp2_with fail
  refine (HC1.out _).mono ?_
  rintro e w1 ⟨rfl, hb1⟩
  have HY := Lib.hid (HX.out.on hb1)
  clear hb1 HX HC1
  obtain ⟨⟨c0, c1, c2⟩, _⟩ := three_cells HY.out.k2
  go_wp2_with fail
  clear c0 c1 c2
  refine (HC2.out _).mono ?_
  rintro e w2 ⟨rfl, hb2⟩
  replace HY := Lib.hid (HY.out.on hb2)
  clear hb2 HC2
  obtain ⟨⟨a0, a1, a2⟩, _⟩ := three_cells HY.out.k1
  obtain ⟨⟨b0, b1, b2⟩, _⟩ := three_cells HY.out.k2
  obtain ⟨⟨c0, c1, c2⟩, f0, f1, f2⟩ := three_cells HY.out.k3
  have Z := three_cells (three_set (x' := 0) (y' := 0) (v' := .slice none 0 0) HY.out.k3)
  have hb3 : Below w.heap.size w _ := ((HY.out.b.setCell (p := ⟨w.heap.size + 2, 0, none⟩) (by show w.heap.size ≤ w.heap.size + 2; omega) (.int .i64 0)).setCell (p := ⟨w.heap.size + 2, 1, none⟩) (by show w.heap.size ≤ w.heap.size + 2; omega) (.int .i64 0)).setCell (p := ⟨w.heap.size + 2, 2, none⟩) (by show w.heap.size ≤ w.heap.size + 2; omega) (.slice none 0 0)
  cases t
  · have ht3 := ht2 rfl
    clear ht2
    go_wp2_with fail
    obtain ⟨⟨z0, z1, z2⟩, _⟩ := Z
    generalize (((w2.setCell { block := w.heap.size + 2, off := 0 } (Value.int IntKind.i64 0)).setCell { block := w.heap.size + 2, off := 1 } (Value.int IntKind.i64 0)).setCell { block := w.heap.size + 2, off := 2 } (Value.slice none 0 0)) = w3 at *
    clear c0 c1 c2 f0 f1 f2 HY
    try simp only [Exit.inBlock, Exit.then]
    refine bodyPost_ret (by simp [results, Try.results11, go_sem, z0, z1, z2, Result.andThen]; try rfl) rfl ?_
    exact ⟨rfl, hb3⟩
  · clear ht2
    go_wp2_with fail
    obtain ⟨⟨z0, z1, z2⟩, _⟩ := Z
    generalize (((w2.setCell { block := w.heap.size + 2, off := 0 } (Value.int IntKind.i64 0)).setCell { block := w.heap.size + 2, off := 1 } (Value.int IntKind.i64 0)).setCell { block := w.heap.size + 2, off := 2 } (Value.slice none 0 0)) = w3 at *
    clear c0 c1 c2 f0 f1 f2 HY
    try simp only [Exit.inBlock, Exit.then]
    refine bodyPost_ret (by simp [results, Try.results11, go_sem, z0, z1, z2, Result.andThen]; try rfl) rfl ?_
    exact ⟨rfl, hb3⟩

set_option maxRecDepth 100000 in
set_option maxHeartbeats 4000000 in
theorem fjoin_ok (s k : Nat) (a b : Option Addr) (len cap len2 cap2 : Nat) (B C : List Bool) (w : World) (hT : Tab w a len cap 1 (B.map bC)) (hT2 : Tab w b len2 cap2 1 (C.map bC)) (hE : filterE s k len = 0) (hE2 : filterE s k len2 = 0) :
    Calls Try.prog 11 #[filterV s k a len cap, filterV s k b len2 cap2] w fun e w' => ∃ v, e = .returned (.tuple #[.agg #[.int .i64 s, .int .i64 k, v], .int .i64 0]) ∧ Own w' w.heap.size 4 1 v ((orB B C).map bC) ∧ Below w.heap.size w w' := by
  obtain ⟨s', k', e1, e2, h1, h2, h3, h4, h5⟩ := filterE_zero hE
  obtain ⟨s'', k'', e1', e2', _, _, _, _, h6⟩ := filterE_zero hE2
  obtain rfl : s' = s := by omega
  obtain rfl : k' = k := by omega
  have h7 : len = len2 := by omega
  clear e1 e2 e1' e2' h6
  subst h5
  subst h7
  have hl := hT.hlen
  have hl2 := hT2.hlen
  rw [List.length_map] at hl hl2
  have HL := Lib.hid (And.intro hl hl2)
  have hle := hT.hle
  have hmx := hT.hmax
  have hle2 := hT2.hle
  have hmx2 := hT2.hmax
  unfold maxLen at hmx hmx2
  have HC1 := fun W => fcheck_any len k' a len cap (by omega) W
  have HC2 := fun W => fcheck_any len k' b len cap2 (by omega) W
  rw [hE] at HC1 HC2
  replace HC1 := Lib.hid HC1
  replace HC2 := Lib.hid HC2
  have HCl := Lib.hid (fun W (h : Tab W a len cap 1 (B.map bC)) => clone_bools a len cap B W h (by omega))
  have HX := Lib.hid (Boxes.new w len k' (.slice a len cap) len k' (.slice b len cap2))
  have HT := Lib.hid hT
  have HT2 := Lib.hid hT2
  unfold filterV at HC1 HC2 ⊢
  have t1 : ((len : Int) != (len : Int)) = false := by simp
  have t2 : ((k' : Int) != (k' : Int)) = false := by simp
  clear hE hE2 hT hT2 hl hl2 hmx hmx2 hle hle2
  go_enter Try.func11, Try.ntmps11
  go_wp2_with fail
  refine (HC1.out _).mono ?_
  rintro e w1 ⟨rfl, hb1⟩
  have HY := Lib.hid (HX.out.on hb1)
  clear hb1 HX HC1
  obtain ⟨⟨c0, c1, c2⟩, _⟩ := three_cells HY.out.k2
  go_wp2_with fail
  clear c0 c1 c2
  refine (HC2.out _).mono ?_
  rintro e w2 ⟨rfl, hb2⟩
  replace HY := Lib.hid (HY.out.on hb2)
  clear hb2 HC2
  obtain ⟨⟨a0, a1, a2⟩, _⟩ := three_cells HY.out.k1
  obtain ⟨⟨b0, b1, b2⟩, _⟩ := three_cells HY.out.k2
  go_wp2_with fail
  refine (HCl.out _ (HT.out.below HY.out.b)).mono ?_
  rintro e w3 ⟨v3, rfl, hO3, hb3⟩
  clear a0 a1 a2 b0 b1 b2
  obtain ⟨g, c3, rfl, hg1, hg2⟩ := own_spotB hO3 (by rw [HL.out.1]; omega)
  rw [HL.out.1] at hO3 ⊢
  have hs2 : w.heap.size + 2 < w2.heap.size := (Array.getElem?_eq_some_iff.1 HY.out.k3).1
  have HY3 := Lib.hid (HY.out.on hb3)
  have hB : (B.map bC) = ((orTo B C 0).map bC) := by rw [orTo_zero]
  rw [hB] at hO3
  have HO3 := Lib.hid hO3
  obtain ⟨B1, hB1⟩ : ∃ n, w2.heap.size = n := ⟨_, rfl⟩
  rw [hB1] at HO3 hg1 hs2
  have HGG := Lib.hid (And.intro hs2 hg1)
  obtain ⟨X, hX⟩ : ∃ X, w.heap.size = X := ⟨_, rfl⟩
  have hY4 := HY3.out
  have hbw := Lib.hid hY4.b
  have K1 := Lib.hid hY4.k1
  have K2 := Lib.hid hY4.k2
  have K3 := Lib.hid hY4.k3
  rw [hX] at K1 K2 K3 HGG ⊢
  rw [show X + 1 + 1 = X + 2 from rfl]
  have HXX := Lib.hid hX
  clear hb3 hO3 hg1 hg2 hs2 HY HY3 hY4 hB hB1 hX HCl
  obtain ⟨⟨b0, b1, b2⟩, _⟩ := three_cells K2.out
  go_wp2_with fail
  clear b0 b1 b2
  go_loopg [42] len (fun n i wr => ∃ j : Nat, j + n = len ∧ i = .int .i64 j ∧ Hid (Own wr B1 4 1 (.slice (some ⟨g, 0, none⟩) len c3) ((orTo B C j).map bC)) ∧ Hid (wr.heap[X]? = some (.cells #[.int .i64 len, .int .i64 k', .slice a len cap] 24 (0, 0))) ∧ Hid (wr.heap[X + 2]? = some (.cells #[.int .i64 0, .int .i64 0, .slice none 0 0] 24 (0, 0))) ∧ Hid (Below w.heap.size w wr))
  case atStart => exact ⟨0, by omega, rfl, HO3, K1, K3, hbw⟩
  case round =>
    clear HO3 K1 K2 K3 hbw
    obtain ⟨j, hj0, rfl, HO, K1, K3, HW⟩ := hrel
    have HJ := Lib.hid hj0
    have hj : j ≤ len := by omega
    clear hj0
    by_cases hlt : j < len
    · obtain ⟨y, hy⟩ : ∃ y, B[j]? = some y := ⟨_, List.getElem?_eq_getElem (by rw [HL.out.1]; exact hlt)⟩
      obtain ⟨z, hz⟩ : ∃ y, C[j]? = some y := ⟨_, List.getElem?_eq_getElem (by rw [HL.out.2]; exact hlt)⟩
      have hBC : B.length = C.length := by rw [HL.out.1, HL.out.2]
      obtain ⟨b1, o1, ha, hbs, c0⟩ := HT2.out.one HW.out (map_get hz)
      have hN := orTo_succ hBC hy hz
      have hyy := orTo_get hBC hy
      obtain ⟨d1, d2, _, _⟩ := HO.out.at1 (map_get hyy)
      have hS := HO.out.set1 (map_get hyy) (.bool (y || z))
      rw [← show bC (y || z) = [Value.bool (y || z)] from rfl, ← List.map_set, hN] at hS
      have HS := Lib.hid hS
      have HW2 := Lib.hid (HW.out.setCell (p := ⟨g, j, none⟩) (by show w.heap.size ≤ g; rw [HXX.out]; have := HGG.out; omega) (.bool (y || z)))
      have J1 := Lib.hid (blk_else3 (a := ⟨g, j, none⟩) (v := .bool (y || z)) K1.out (by show X ≠ g; have := HGG.out; omega))
      have J3 := Lib.hid (blk_else3 (a := ⟨g, j, none⟩) (v := .bool (y || z)) K3.out (by show X + 2 ≠ g; have := HGG.out; omega))
      subst ha
      clear hy hz hBC hN hyy hS
      cases y
      · simp only [Bool.false_or] at HS HW2 J1 J3
        go_wp2_with fail
        go_roundg (len - (j + 1))
        case measure => have := HJ.out; omega
        case rel => exact ⟨j + 1, by omega, by go_num, HS, J1, J3, HW2⟩
      · simp only [Bool.true_or] at HS HW2 J1 J3
        go_wp2_with fail
        go_roundg (len - (j + 1))
        case measure => have := HJ.out; omega
        case rel => exact ⟨j + 1, by omega, by go_num, HS, J1, J3, HW2⟩
    · obtain rfl : j = len := by omega
      have hBC : B.length = C.length := by rw [HL.out.1, HL.out.2]
      have hj2 : j = C.length := HL.out.2.symm
      have HO2 : Hid (Own wr B1 4 1 (.slice (some ⟨g, 0, none⟩) j c3) ((orB B C).map bC)) := Lib.hid (by have := HO.out; rw [show orTo B C j = orB B C from by rw [hj2]; exact orTo_all hBC] at this; exact this)
      obtain ⟨⟨a0, a1, a2⟩, _⟩ := three_cells K1.out
      obtain ⟨⟨c0, c1, c2⟩, f0, f1, f2⟩ := three_cells K3.out
      have Z := three_cells (three_set (x' := j) (y' := k') (v' := .slice (some ⟨g, 0, none⟩) j c3) K3.out)
      have hXB : X + 2 < B1 := HGG.out.1
      have hXX : w.heap.size ≤ X + 2 := by rw [HXX.out]; omega
      have HOZ := Lib.hid ((((HO2.out.setCell (a := ⟨X + 2, 0, none⟩) hXB (.int .i64 j)).setCell (a := ⟨X + 2, 1, none⟩) hXB (.int .i64 k')).setCell (a := ⟨X + 2, 2, none⟩) hXB (.slice (some ⟨g, 0, none⟩) j c3)).base_le (B := w.heap.size) (by rw [HXX.out]; omega))
      have HBZ := Lib.hid (((HW.out.setCell (p := ⟨X + 2, 0, none⟩) hXX (.int .i64 j)).setCell (p := ⟨X + 2, 1, none⟩) hXX (.int .i64 k')).setCell (p := ⟨X + 2, 2, none⟩) hXX (.slice (some ⟨g, 0, none⟩) j c3))
      have HZ := Lib.hid Z.1
      clear Z HO HO2 HW hXX hXB hj2 hBC
      go_wp2_with fail
      obtain ⟨z0, z1, z2⟩ := HZ.out
      generalize (((wr.setCell { block := X + 2, off := 0 } (Value.int IntKind.i64 j)).setCell { block := X + 2, off := 1 } (Value.int IntKind.i64 k')).setCell { block := X + 2, off := 2 } (Value.slice (some { block := g, off := 0 }) j c3)) = w5 at *
      clear c0 c1 c2 f0 f1 f2 a0 a1 a2 HZ
      try simp only [Exit.inBlock, Exit.then]
      refine bodyPost_ret (by simp [results, Try.results11, go_sem, z0, z1, z2, Result.andThen]; try rfl) rfl ?_
      exact ⟨_, rfl, HOZ.out, HBZ.out⟩
end Go.Proofs.Ytffgoekdjcempab
