/- Texts joined: TopPuts, TopFill, TopSit. -/
import Derived.Test.YtffgoekdjcempabGr43
import Derived.Test.YtffgoekdjcempabBottomJoin
import Derived.Test.YtffgoekdjcempabGr50
import Derived.Test.YtffgoekdjcempabFewAsk
import Derived.Test.YtffgoekdjcempabGr48
import Derived.Deep.LoopGhost
/- What Put, Join and the asks do to five sketches to which the same keys came. -/
namespace Go.Proofs.Ytffgoekdjcempab
open Go.ChangeShapes Go.WideShapes Go.ChangeAt Go.RowKit
open Tbl Five
namespace Five
def keyOk (l : List Int) : Prop := ∀ y ∈ l, 0 ≤ y ∧ y < 72057594037927936
theorem putB_any {w : World} {base : Nat} {v : Value} {l : List Int} {x : Int} (h : Own w base 3 1 v ((bL l).map iC)) (hl : keyOk l) (h0 : 0 ≤ x) (h1 : x < 72057594037927936) :
    Calls Try.prog 36 #[.agg #[.int .i64 5, v], .int .i64 x] w fun e w' => ∃ v', e = .returned (.tuple #[.agg #[.int .i64 5, v'], .int .i64 0]) ∧ Own w' w.heap.size 3 1 v' ((bL (l ++ [x])).map iC) ∧ Below w.heap.size w w' := by
  obtain ⟨a, c, rfl, T⟩ := h.tab
  have C := bput_ok 5 a _ c (bL l) x w T (b_good hl) h0 h1
  rw [b_snoc] at C
  exact C
theorem joinB_any {w : World} {base base2 : Nat} {v u : Value} {A B : List Int} (h : Own w base 3 1 v ((bL B).map iC)) (g : Own w base2 3 1 u ((bL A).map iC)) (hB : keyOk B) (hA : keyOk A) :
    Calls Try.prog 38 #[.agg #[.int .i64 5, v], .agg #[.int .i64 5, u]] w fun e w' => ∃ v', e = .returned (.tuple #[.agg #[.int .i64 5, v'], .int .i64 0]) ∧ Own w' w.heap.size 3 1 v' ((bL (A ++ B)).map iC) ∧ Below w.heap.size w w' := by
  obtain ⟨a, c, rfl, T⟩ := h.tab
  obtain ⟨b, d, rfl, U⟩ := g.tab
  have C := bjoin_ok 5 a b _ c _ d (bL B) (bL A) w T U (b_good hB) (b_good hA)
  rw [b_join] at C
  exact C
theorem putF_any {w : World} {base : Nat} {v : Value} {l : List Int} (x : Int) (h : Own w base 4 1 v ((fB l).map bC)) :
    Calls Try.prog 10 #[.agg #[.int .i64 100, .int .i64 3, v], .int .i64 x] w fun e w' => ∃ v', e = .returned (.tuple #[.agg #[.int .i64 100, .int .i64 3, v'], .int .i64 0]) ∧ Own w' w.heap.size 4 1 v' ((fB (l ++ [x])).map bC) ∧ Below w.heap.size w w' := by
  obtain ⟨a, c, rfl, T⟩ := h.tab
  rw [List.length_map, f_len] at T ⊢
  have C := fput_ok 100 3 a 100 c (fB l) x w T f_good
  rw [f_snoc] at C
  exact C
theorem joinF_any {w : World} {base base2 : Nat} {v u : Value} {A B : List Int} (h : Own w base 4 1 v ((fB B).map bC)) (g : Own w base2 4 1 u ((fB A).map bC)) :
    Calls Try.prog 11 #[.agg #[.int .i64 100, .int .i64 3, v], .agg #[.int .i64 100, .int .i64 3, u]] w fun e w' => ∃ v', e = .returned (.tuple #[.agg #[.int .i64 100, .int .i64 3, v'], .int .i64 0]) ∧ Own w' w.heap.size 4 1 v' ((fB (A ++ B)).map bC) ∧ Below w.heap.size w w' := by
  obtain ⟨a, c, rfl, T⟩ := h.tab
  obtain ⟨b, d, rfl, U⟩ := g.tab
  rw [List.length_map, f_len] at T U ⊢
  rw [List.length_map, f_len]
  have C := fjoin_ok 100 3 a b 100 c 100 d (fB B) (fB A) w T U f_good f_good
  rw [f_join] at C
  exact C
theorem hasF_any {w : World} {base : Nat} {v : Value} {l : List Int} {x : Int} (h : Own w base 4 1 v ((fB l).map bC)) (hx : x ∈ l) :
    Calls Try.prog 44 #[.agg #[.int .i64 100, .int .i64 3, v], .int .i64 x] w fun e w' => e = .returned (.tuple #[.bool true, .int .i64 0]) ∧ Below w.heap.size w w' := by
  obtain ⟨a, c, rfl, T⟩ := h.tab
  rw [List.length_map, f_len] at T ⊢
  have C := fhas_ok 100 3 a 100 c (fB l) x w T f_good
  rw [f_has hx] at C
  exact C
theorem putT_any {w : World} {P : Nat → Prop} {a : Option Addr} {c : Nat} {l : List Int} (x : Int) (h : TTx w P a 2 c (fT l)) (hl : l.length < 60) :
    Calls Try.prog 12 #[.agg #[.int .i64 7, .slice a 2 c], .int .i64 x, .int .i64 1] w fun e w' => ∃ (a' : Option Addr) (c' : Nat), e = .returned (.tuple #[.agg #[.int .i64 7, .slice a' 2 c'], .int .i64 0]) ∧ TTx w' (fun b => w.heap.size ≤ b) a' 2 c' (fT (l ++ [x])) ∧ Below w.heap.size w w' := by
  have C := tput_fine 7 x 1 a 2 c (fT l) P w h (t_good (by omega)) (by decide) (by decide) (by rw [t_snoc]; exact Tbl.good_fits (t_good (by rw [List.length_append]; simp only [List.length_singleton]; omega)))
  rw [t_snoc] at C
  exact C
theorem joinT_any {w : World} {P P2 : Nat → Prop} {a b : Option Addr} {c d : Nat} {A B : List Int} (h : TTx w P a 2 c (fT B)) (g : TTx w P2 b 2 d (fT A)) (hl : (A ++ B).length ≤ 60) :
    Calls Try.prog 13 #[.agg #[.int .i64 7, .slice a 2 c], .agg #[.int .i64 7, .slice b 2 d]] w fun e w' => ∃ (a' : Option Addr) (c' : Nat), e = .returned (.tuple #[.agg #[.int .i64 7, .slice a' 2 c'], .int .i64 0]) ∧ TTx w' (fun b => w.heap.size ≤ b) a' 2 c' (fT (A ++ B)) ∧ Below w.heap.size w w' := by
  have h1 : A.length ≤ 60 := by rw [List.length_append] at hl; omega
  have h2 : B.length ≤ 60 := by rw [List.length_append] at hl; omega
  have C := tjoin_fine 7 a b 2 c d (fT B) (fT A) P P2 w h g (t_good h2) (t_good h1) (by rw [t_join]; exact Tbl.good_fits (t_good hl))
  rw [t_join] at C
  exact C
theorem askT_any {w : World} {P : Nat → Prop} {a : Option Addr} {c : Nat} {l : List Int} (x : Int) (h : TTx w P a 2 c (fT l)) (hl : l.length ≤ 60) :
    Calls Try.prog 42 #[.agg #[.int .i64 7, .slice a 2 c], .int .i64 x] w fun e w' => e = .returned (.tuple #[.int .i64 (Tbl.askR 7 x (fT l)), .int .i64 0]) ∧ Below w.heap.size w w' := task_ok 7 x a 2 c (fT l) P w h (t_good hl)
theorem putR_any {w : World} {base : Nat} {v : Value} {l : List Int} {x : Int} (h : Own w base 3 1 v ((rL l).map iC)) (h0 : 0 ≤ x) (h1 : x < 72057594037927936) :
    Calls Try.prog 37 #[v, .int .i64 x] w fun e w' => ∃ v', e = .returned (.tuple #[v', .int .i64 0]) ∧ Own w' w.heap.size 3 1 v' ((rL (l ++ [x])).map iC) ∧ Below w.heap.size w w' := by
  obtain ⟨a, c, rfl, T⟩ := h.tab
  have C := regsPut_any a _ c (rL l) x w T
  rw [(r_snoc l h0 h1).1, (r_snoc l h0 h1).2] at C
  exact C
theorem joinR_any {w : World} {base base2 : Nat} {v u : Value} {A B : List Int} (h : Own w base 3 1 v ((rL B).map iC)) (g : Own w base2 3 1 u ((rL A).map iC)) :
    Calls Try.prog 39 #[v, u] w fun e w' => ∃ v', e = .returned (.tuple #[v', .int .i64 0]) ∧ Own w' w.heap.size 3 1 v' ((rL (A ++ B)).map iC) ∧ Below w.heap.size w w' := by
  obtain ⟨a, c, rfl, T⟩ := h.tab
  obtain ⟨b, d, rfl, U⟩ := g.tab
  have C := regsJoin_any a b _ c _ d (rL B) (rL A) w T U
  rw [(r_join A B).1, (r_join A B).2] at C
  exact C
theorem putC_any {w : World} {base : Nat} {v : Value} {L : Int} {C : List (Int × Int)} {l : List Int} (x : Int) (h : Own w base 36 2 v (C.map iiC)) (hN : Few.Near 4 (ones l) L C) (hl : l.length < 60) :
    Calls Try.prog 5 #[.agg #[.int .i64 4, .int .i64 L, v], .int .i64 x, .int .i64 1] w fun e w' => ∃ (L' : Int) (C' : List (Int × Int)) (v' : Value), e = .returned (.tuple #[.agg #[.int .i64 4, .int .i64 L', v'], .int .i64 0]) ∧ Own w' w.heap.size 36 2 v' (C'.map iiC) ∧ Few.Near 4 (ones (l ++ [x])) L' C' ∧ Below w.heap.size w w' := by
  obtain ⟨a, c, rfl, T⟩ := h.tab
  obtain ⟨e0, hN'⟩ := c_snoc (x := x) hN hl
  refine (fewPut_any 4 L a _ c C x 1 w T).mono ?_
  rintro e w' ⟨Kr, Lr, Cr, v', rfl, hO, hw, hb⟩
  rw [e0] at hO ⊢
  rcases hO with ⟨_, rfl, rfl, rfl⟩ | ⟨h4, _⟩
  · exact ⟨_, _, v', rfl, hw, hN', hb⟩
  · exact absurd rfl h4
theorem joinC_any {w : World} {base base2 : Nat} {v u : Value} {L M : Int} {C D : List (Int × Int)} {A B : List Int} (h : Own w base 36 2 v (D.map iiC)) (g : Own w base2 36 2 u (C.map iiC)) (hB : Few.Near 4 (ones B) M D) (hA : Few.Near 4 (ones A) L C) (hl : (A ++ B).length ≤ 60) :
    Calls Try.prog 14 #[.agg #[.int .i64 4, .int .i64 M, v], .agg #[.int .i64 4, .int .i64 L, u]] w fun e w' => ∃ (L' : Int) (C' : List (Int × Int)) (v' : Value), e = .returned (.tuple #[.agg #[.int .i64 4, .int .i64 L', v'], .int .i64 0]) ∧ Own w' w.heap.size 36 2 v' (C'.map iiC) ∧ Few.Near 4 (ones B ++ ones A) L' C' ∧ Below w.heap.size w w' := by
  obtain ⟨a, c, rfl, T⟩ := h.tab
  obtain ⟨b, d, rfl, U⟩ := g.tab
  obtain ⟨e0, hN'⟩ := c_join hA hB hl
  refine (fewJoin_any 4 M a _ c D 4 L b _ d C w T U).mono ?_
  rintro e w' ⟨Kr, Lr, Cr, v', rfl, hO, hw, hb⟩
  rw [e0] at hO ⊢
  rcases hO with ⟨_, rfl, rfl, rfl⟩ | ⟨h4, _⟩
  · exact ⟨_, _, v', rfl, hw, hN', hb⟩
  · exact absurd rfl h4
theorem askC_any {w : World} {base : Nat} {v : Value} {L : Int} {C A : List (Int × Int)} (x : Int) (h : Own w base 36 2 v (C.map iiC)) (hN : Few.Near 4 A L C) :
    Calls Try.prog 43 #[.agg #[.int .i64 4, .int .i64 L, v], .int .i64 x] w fun e w' => e = .returned (.tuple #[.int .i64 (oft x C), .int .i64 (oft x C + L), .int .i64 0]) ∧ Below w.heap.size w w' := by
  obtain ⟨a, c, rfl, T⟩ := h.tab
  exact fewAsk_ok 4 L a _ c C x w T hN.good
end Five
end Go.Proofs.Ytffgoekdjcempab

/- The contract of the laws' own fill (the second closure of TopSketches): five sketches of all the keys. -/
namespace Go.Proofs.Ytffgoekdjcempab
open Go.ChangeShapes Go.WideShapes Go.ChangeAt Go.RowKit
open Tbl Five
open Few (kept_blk)

set_option maxRecDepth 100000 in
set_option maxHeartbeats 4000000 in
theorem fill_any (q : Option Addr) (len cap F : Nat) (l : List Int) (ty : TypeId) (w : World) (h : Tab w q len cap 1 (l.map iC)) (hl1 : len ≤ 60) (hk : keyOk l) (hF : w.heap[F]? = some (.cells #[.func (.func 32) #[] #[]] ty (0, 0))) :
    Calls Try.prog 35 #[.slice q len cap, .pointer (some ⟨F, 0, none⟩)] w fun e w' => ∃ (v1 v2 : Value) (a : Option Addr) (c : Nat) (v4 : Value) (L : Int) (C : List (Int × Int)) (v5 : Value), e = .returned (.tuple #[fiveV v1 v2 a c v4 L v5, .bool true]) ∧ Hold w' w.heap.size v1 v2 a c v4 L C v5 l ∧ Below w.heap.size w w' := by
  have hl := h.hlen
  rw [List.length_map] at hl
  unfold fiveV
  have hFs : F < w.heap.size := (Array.getElem?_eq_some_iff.1 hF).1
  have hb0 : Below w.heap.size w (w.alloc (.cells #[.int .i64 0, .slice none 0 0, .int .i64 0, .int .i64 0, .slice none 0 0, .int .i64 0, .slice none 0 0, .slice none 0 0, .int .i64 0, .int .i64 0, .slice none 0 0] 71)) := (Below.refl _ _).alloc (Nat.le_refl _) _
  have k0 := (MapKept.heap_alloc w (.cells #[.int .i64 0, .slice none 0 0, .int .i64 0, .int .i64 0, .slice none 0 0, .int .i64 0, .slice none 0 0, .slice none 0 0, .int .i64 0, .int .i64 0, .slice none 0 0] 71)).1
  have hs0 : (w.alloc (.cells #[.int .i64 0, .slice none 0 0, .int .i64 0, .int .i64 0, .slice none 0 0, .int .i64 0, .slice none 0 0, .slice none 0 0, .int .i64 0, .int .i64 0, .slice none 0 0] 71)).heap.size = w.heap.size + 1 := by simp
  obtain ⟨v0, hv0⟩ : ∃ v, w.alloc (.cells #[.int .i64 0, .slice none 0 0, .int .i64 0, .int .i64 0, .slice none 0 0, .int .i64 0, .slice none 0 0, .slice none 0 0, .int .i64 0, .int .i64 0, .slice none 0 0] 71) = v := ⟨_, rfl⟩
  rw [hv0] at hb0 k0 hs0
  have cF : v0.cell? ⟨F, 0, none⟩ = some (.func (.func 32) #[] #[]) := cell_blk (kept_blk hb0 hF) rfl
  have HV := Lib.hid hv0
  have HB0 := Lib.hid hb0
  have K0 := Lib.hid k0
  have HS := Lib.hid hs0
  have HT := Lib.hid h
  have HL := Lib.hid hl
  have HK := Lib.hid hk
  clear hb0 k0 hs0 hv0 h hl hF hFs hk
  go_enter Try.func35, Try.ntmps35
  go_upto_region 1 with fail
  rw [HV.out]
  clear HV
  obtain ⟨X, hX⟩ : ∃ X, w.heap.size = X := ⟨_, rfl⟩
  have HX := Lib.hid hX
  rw [hX] at K0 HS ⊢
  clear hX
  go_wp2_with fail
  clear cF
  refine (fresh_any v0).mono ?_
  rintro e w1 ⟨v1, v2, a, c, v4, v5, rfl, hH, hb⟩
  rw [HS.out] at hH
  have hB1 := below_on HB0.out hb
  have hst := Bx.start (kept_blk hb K0.out) hH hB1
  have hHY : w1.heap.size ≥ X + 1 := by have := hb.size; have := HS.out; omega
  obtain ⟨p1, n1, d1, rfl⟩ := own_slice hH.b
  obtain ⟨p2, n2, d2, rfl⟩ := own_slice hH.f
  obtain ⟨p4, n4, d4, rfl⟩ := own_slice hH.r
  obtain ⟨p5, n5, d5, rfl⟩ := own_slice hH.c
  have HST := Lib.hid hst
  have HYX := Lib.hid hHY
  clear hH hb hB1 hst K0 HB0 HS hHY
  unfold fiveV
  go_upto_region 2 with fail
  obtain ⟨w2, hw2⟩ : ∃ v, w1.alloc (.cells #[.int .i64 5, .slice p1 n1 d1, .int .i64 100, .int .i64 3, .slice p2 n2 d2, .int .i64 7, .slice a 2 c, .slice p4 n4 d4, .int .i64 4, .int .i64 0, .slice p5 n5 d5] 71) = v := ⟨_, rfl⟩
  rw [hw2] at HST ⊢
  clear hw2
  obtain ⟨Y, hY⟩ : ∃ Y, w1.heap.size = Y := ⟨_, rfl⟩
  rw [hY] at HST HYX ⊢
  clear hY
  have HXY : Hid (w.heap.size ≤ Y) := Lib.hid (by have := HX.out; have := HYX.out; omega)
  go_wp2_with fail
  go_loopg [17] len (fun g i wr => ∃ (j : Nat) (v1 v2 : Value) (a : Option Addr) (c : Nat) (v4 : Value) (L : Int) (C : List (Int × Int)) (v5 : Value), j + g = len ∧ i = .int .i64 j ∧ Hid (Bx w wr X Y v1 v2 a c v4 L C v5 (l.take j) (l.take j) (l.take j) (l.take j) (l.take j)))
  case atStart => exact ⟨0, _, _, a, c, _, 0, [], _, by omega, rfl, HST⟩
  case round =>
    clear HST
    obtain ⟨j, v1, v2, a, c, v4, L, C, v5, hj0, rfl, HB⟩ := hrel
    have HJ := Lib.hid hj0
    have hj : j ≤ len := by omega
    clear hj0
    obtain ⟨x0, x1, x2, x3, x4, x5, x6, x7, x8, x9, x10⟩ := all_cells HB.out.box
    by_cases hlt : j < len
    · obtain ⟨x, hx⟩ : ∃ x, l[j]? = some x := ⟨_, List.getElem?_eq_getElem (by rw [HL.out]; exact hlt)⟩
      obtain ⟨b1, o1, ha, hbs, c0⟩ := HT.out.one HB.out.out (map_get hx)
      have hkx := HK.out x (List.mem_of_getElem? hx)
      have htk : l.take (j + 1) = l.take j ++ [x] := by rw [List.take_add_one, hx, Option.toList_some]
      have hkt : keyOk (l.take j) := fun y hy => HK.out y (List.mem_of_mem_take hy)
      have hl60 : (l.take j).length < 60 := by rw [List.length_take]; have := HL.out; omega
      have P1 := putB_any HB.out.b hkt hkx.1 hkx.2
      rw [← htk] at P1
      replace P1 := Lib.hid P1
      have HKX := Lib.hid hkx
      have HTK := Lib.hid htk
      have H60 := Lib.hid hl60
      subst ha
      clear hx hkx htk hkt hl60
      go_wp2_with fail
      clear c0 x0 x1 x2 x3 x4 x5 x6 x7 x8 x9 x10
      refine P1.out.mono ?_
      rintro e w3 ⟨u1, rfl, hO, hb⟩
      obtain ⟨p1', n1', d1', rfl⟩ := own_slice hO
      obtain ⟨f0, f1, f2, f3, f4, f5, f6, f7, f8, f9, f10⟩ := all_frozen (kept_blk hb HB.out.box)
      obtain ⟨x0, x1, x2, x3, x4, x5, x6, x7, x8, x9, x10⟩ := all_cells (kept_blk hb HB.out.box)
      have hs := Bx.putB hO HB.out hb HXY.out
      replace hs := Lib.hid hs
      clear P1 hb hO HB
      go_upto_region 7 with fail
      clear f0 f1 f2 f3 f4 f5 f6 f7 f8 f9 f10 x0 x1 x2 x3 x4 x5 x6 x7 x8 x9 x10
      obtain ⟨w4, hw4⟩ : ∃ v, ((w3.setCell ⟨Y, 0, none⟩ (.int .i64 5)).setCell ⟨Y, 1, none⟩ (.slice p1' n1' d1')) = v := ⟨_, rfl⟩
      rw [hw4] at hs ⊢
      clear hw4
      have HB := hs
      clear hs
      have P2 := putF_any x HB.out.f
      rw [← HTK.out] at P2
      have P1 := Lib.hid P2
      clear P2
      obtain ⟨x0, x1, x2, x3, x4, x5, x6, x7, x8, x9, x10⟩ := all_cells HB.out.box
      go_wp2_with fail
      clear x0 x1 x2 x3 x4 x5 x6 x7 x8 x9 x10
      refine P1.out.mono ?_
      rintro e w3 ⟨u2, rfl, hO, hb⟩
      obtain ⟨p2', n2', d2', rfl⟩ := own_slice hO
      obtain ⟨f0, f1, f2, f3, f4, f5, f6, f7, f8, f9, f10⟩ := all_frozen (kept_blk hb HB.out.box)
      obtain ⟨x0, x1, x2, x3, x4, x5, x6, x7, x8, x9, x10⟩ := all_cells (kept_blk hb HB.out.box)
      have hs := Bx.putF hO HB.out hb HXY.out
      replace hs := Lib.hid hs
      clear P1 hb hO HB
      go_upto_region 8 with fail
      clear f0 f1 f2 f3 f4 f5 f6 f7 f8 f9 f10 x0 x1 x2 x3 x4 x5 x6 x7 x8 x9 x10
      obtain ⟨w4, hw4⟩ : ∃ v, (((w3.setCell ⟨Y, 2, none⟩ (.int .i64 100)).setCell ⟨Y, 3, none⟩ (.int .i64 3)).setCell ⟨Y, 4, none⟩ (.slice p2' n2' d2')) = v := ⟨_, rfl⟩
      rw [hw4] at hs ⊢
      clear hw4
      have HB := hs
      clear hs
      have P2 := putT_any x HB.out.t H60.out
      rw [← HTK.out] at P2
      have P1 := Lib.hid P2
      clear P2
      obtain ⟨x0, x1, x2, x3, x4, x5, x6, x7, x8, x9, x10⟩ := all_cells HB.out.box
      go_wp2_with fail
      clear x0 x1 x2 x3 x4 x5 x6 x7 x8 x9 x10
      refine P1.out.mono ?_
      rintro e w3 ⟨u3, d, rfl, hO, hb⟩
      obtain ⟨f0, f1, f2, f3, f4, f5, f6, f7, f8, f9, f10⟩ := all_frozen (kept_blk hb HB.out.box)
      obtain ⟨x0, x1, x2, x3, x4, x5, x6, x7, x8, x9, x10⟩ := all_cells (kept_blk hb HB.out.box)
      have hs := Bx.putT hO HB.out hb HXY.out
      replace hs := Lib.hid hs
      clear P1 hb hO HB
      go_upto_region 9 with fail
      clear f0 f1 f2 f3 f4 f5 f6 f7 f8 f9 f10 x0 x1 x2 x3 x4 x5 x6 x7 x8 x9 x10
      obtain ⟨w4, hw4⟩ : ∃ v, ((w3.setCell ⟨Y, 5, none⟩ (.int .i64 7)).setCell ⟨Y, 6, none⟩ (.slice u3 2 d)) = v := ⟨_, rfl⟩
      rw [hw4] at hs ⊢
      clear hw4
      have HB := hs
      clear hs
      have P2 := putR_any HB.out.r HKX.out.1 HKX.out.2
      rw [← HTK.out] at P2
      have P1 := Lib.hid P2
      clear P2
      obtain ⟨x0, x1, x2, x3, x4, x5, x6, x7, x8, x9, x10⟩ := all_cells HB.out.box
      go_wp2_with fail
      clear x0 x1 x2 x3 x4 x5 x6 x7 x8 x9 x10
      refine P1.out.mono ?_
      rintro e w3 ⟨u4, rfl, hO, hb⟩
      obtain ⟨p4', n4', d4', rfl⟩ := own_slice hO
      obtain ⟨f0, f1, f2, f3, f4, f5, f6, f7, f8, f9, f10⟩ := all_frozen (kept_blk hb HB.out.box)
      obtain ⟨x0, x1, x2, x3, x4, x5, x6, x7, x8, x9, x10⟩ := all_cells (kept_blk hb HB.out.box)
      have hs := Bx.putR hO HB.out hb HXY.out
      replace hs := Lib.hid hs
      clear P1 hb hO HB
      go_upto_region 10 with fail
      clear f0 f1 f2 f3 f4 f5 f6 f7 f8 f9 f10 x0 x1 x2 x3 x4 x5 x6 x7 x8 x9 x10
      obtain ⟨w4, hw4⟩ : ∃ v, (w3.setCell ⟨Y, 7, none⟩ (.slice p4' n4' d4')) = v := ⟨_, rfl⟩
      rw [hw4] at hs ⊢
      clear hw4
      have HB := hs
      clear hs
      have P2 := putC_any x HB.out.c HB.out.near H60.out
      rw [← HTK.out] at P2
      have P1 := Lib.hid P2
      clear P2
      obtain ⟨x0, x1, x2, x3, x4, x5, x6, x7, x8, x9, x10⟩ := all_cells HB.out.box
      go_wp2_with fail
      clear x0 x1 x2 x3 x4 x5 x6 x7 x8 x9 x10
      refine P1.out.mono ?_
      rintro e w3 ⟨M, D, u5, rfl, hO, hN, hb⟩
      obtain ⟨p5', n5', d5', rfl⟩ := own_slice hO
      obtain ⟨f0, f1, f2, f3, f4, f5, f6, f7, f8, f9, f10⟩ := all_frozen (kept_blk hb HB.out.box)
      obtain ⟨x0, x1, x2, x3, x4, x5, x6, x7, x8, x9, x10⟩ := all_cells (kept_blk hb HB.out.box)
      have hs := Bx.putC hO hN HB.out hb HXY.out
      replace hs := Lib.hid hs
      clear P1 hb hO HB hN
      go_upto_region 11 with fail
      clear f0 f1 f2 f3 f4 f5 f6 f7 f8 f9 f10 x0 x1 x2 x3 x4 x5 x6 x7 x8 x9 x10
      obtain ⟨w4, hw4⟩ : ∃ v, (((w3.setCell ⟨Y, 8, none⟩ (.int .i64 4)).setCell ⟨Y, 9, none⟩ (.int .i64 M)).setCell ⟨Y, 10, none⟩ (.slice p5' n5' d5')) = v := ⟨_, rfl⟩
      rw [hw4] at hs ⊢
      clear hw4
      have HB := hs
      clear hs
      go_wp2_with fail
      go_roundg (len - (j + 1))
      case measure => have := HJ.out; omega
      case rel => exact ⟨j + 1, _, _, u3, d, _, M, D, _, by omega, by go_num, HB⟩
    · obtain rfl : j = len := by omega
      rw [List.take_of_length_le (by rw [HL.out]; exact Nat.le_refl _)] at HB
      obtain ⟨p1', n1', d1', rfl⟩ := own_slice HB.out.b
      obtain ⟨p2', n2', d2', rfl⟩ := own_slice HB.out.f
      obtain ⟨p4', n4', d4', rfl⟩ := own_slice HB.out.r
      obtain ⟨p5', n5', d5', rfl⟩ := own_slice HB.out.c
      obtain ⟨f0, f1, f2, f3, f4, f5, f6, f7, f8, f9, f10⟩ := all_frozen HB.out.res
      obtain ⟨y0, y1, y2, y3, y4, y5, y6, y7, y8, y9, y10⟩ := all_cells HB.out.res
      have KZ := Lib.hid (all_cells (all_set HB.out.res (.int .i64 5) (.slice p1' n1' d1') (.int .i64 100) (.int .i64 3) (.slice p2' n2' d2') (.int .i64 7) (.slice a 2 c) (.slice p4' n4' d4') (.int .i64 4) (.int .i64 L) (.slice p5' n5' d5')))
      have HF := Lib.hid (Bx.finish HB.out (Nat.le_of_eq HX.out))
      go_wp2_with fail
      obtain ⟨z0, z1, z2, z3, z4, z5, z6, z7, z8, z9, z10⟩ := KZ.out
      obtain ⟨w9, hw9⟩ : ∃ v, (((((((((((wr.setCell ⟨X, 0, none⟩ (.int .i64 5)).setCell ⟨X, 1, none⟩ (.slice p1' n1' d1')).setCell ⟨X, 2, none⟩ (.int .i64 100)).setCell ⟨X, 3, none⟩ (.int .i64 3)).setCell ⟨X, 4, none⟩ (.slice p2' n2' d2')).setCell ⟨X, 5, none⟩ (.int .i64 7)).setCell ⟨X, 6, none⟩ (.slice a 2 c)).setCell ⟨X, 7, none⟩ (.slice p4' n4' d4')).setCell ⟨X, 8, none⟩ (.int .i64 4)).setCell ⟨X, 9, none⟩ (.int .i64 L)).setCell ⟨X, 10, none⟩ (.slice p5' n5' d5')) = v := ⟨_, rfl⟩
      rw [hw9] at HF KZ ⊢
      rw [hw9] at z0 z1 z2 z3 z4 z5 z6 z7 z8 z9 z10
      clear hw9 y0 y1 y2 y3 y4 y5 y6 y7 y8 y9 y10 x0 x1 x2 x3 x4 x5 x6 x7 x8 x9 x10 f0 f1 f2 f3 f4 f5 f6 f7 f8 f9 f10
      try simp only [Exit.inBlock, Exit.then]
      refine bodyPost_ret (by simp [results, Try.results35, go_sem, z0, z1, z2, z3, z4, z5, z6, z7, z8, z9, z10, Result.andThen]; try rfl) rfl ?_
      exact ⟨_, _, _, _, _, _, _, _, rfl, HF.out.1, HF.out.2⟩
end Go.Proofs.Ytffgoekdjcempab

/- Five sketches in a variable that is written no more, and one joined sketch in a variable. Shapes alone. -/
namespace Go.Proofs.Ytffgoekdjcempab
open Go.ChangeShapes Go.WideShapes Go.ChangeAt Go.RowKit
open Tbl Five
open Few (kept_blk)
namespace Five
structure Sit (w : World) (Y : Nat) (v1 v2 : Value) (a : Option Addr) (c : Nat) (v4 : Value) (L : Int) (C : List (Int × Int)) (v5 : Value) (l : List Int) : Prop where
  box : w.heap[Y]? = some (.cells #[.int .i64 5, v1, .int .i64 100, .int .i64 3, v2, .int .i64 7, .slice a 2 c, v4, .int .i64 4, .int .i64 L, v5] 71 (0, 0))
  hold : Hold w 0 v1 v2 a c v4 L C v5 l
theorem Sit.below {w w' : World} {Y : Nat} {v1 v2 : Value} {a : Option Addr} {c : Nat} {v4 : Value} {L : Int} {C : List (Int × Int)} {v5 : Value} {l : List Int} (h : Sit w Y v1 v2 a c v4 L C v5 l) (hb : Below w.heap.size w w') : Sit w' Y v1 v2 a c v4 L C v5 l :=
  ⟨kept_blk hb h.box, h.hold.below hb⟩
theorem Sit.new {w : World} {base : Nat} {v1 v2 : Value} {a : Option Addr} {c : Nat} {v4 : Value} {L : Int} {C : List (Int × Int)} {v5 : Value} {l : List Int} (h : Hold w base v1 v2 a c v4 L C v5 l) :
    Sit (w.alloc (.cells #[.int .i64 5, v1, .int .i64 100, .int .i64 3, v2, .int .i64 7, .slice a 2 c, v4, .int .i64 4, .int .i64 L, v5] 71)) w.heap.size v1 v2 a c v4 L C v5 l :=
  ⟨(MapKept.heap_alloc w _).1, (h.base_le (Nat.zero_le _)).below ((Below.refl _ _).alloc (Nat.le_refl _) _)⟩
/-- one own slice behind some cells in a variable -/
structure Put1 (w : World) (Y : Nat) (cs : Array Value) (t : TypeId) (e : TypeId) (k : Nat) (v : Value) (R : List (List Value)) : Prop where
  box : w.heap[Y]? = some (.cells cs t (0, 0))
  own : Own w 0 e k v R
theorem Put1.below {w w' : World} {Y : Nat} {cs : Array Value} {t e : TypeId} {k : Nat} {v : Value} {R : List (List Value)} (h : Put1 w Y cs t e k v R) (hb : Below w.heap.size w w') : Put1 w' Y cs t e k v R := ⟨kept_blk hb h.box, h.own.below hb⟩
theorem Put1.new {w : World} {base : Nat} {cs : Array Value} {t e : TypeId} {k : Nat} {v : Value} {R : List (List Value)} (h : Own w base e k v R) : Put1 (w.alloc (.cells cs t)) w.heap.size cs t e k v R :=
  ⟨(MapKept.heap_alloc w _).1, (h.base_le (Nat.zero_le _)).below ((Below.refl _ _).alloc (Nat.le_refl _) _)⟩
structure PutT (w : World) (Y : Nat) (a : Option Addr) (c : Nat) (l : List Int) : Prop where
  box : w.heap[Y]? = some (.cells #[.int .i64 7, .slice a 2 c] 27 (0, 0))
  tt : TTx w anyB a 2 c (fT l)
theorem PutT.below {w w' : World} {Y : Nat} {a : Option Addr} {c : Nat} {l : List Int} (h : PutT w Y a c l) (hb : Below w.heap.size w w') : PutT w' Y a c l := ⟨kept_blk hb h.box, h.tt.below hb⟩
theorem PutT.new {w : World} {P : Nat → Prop} {a : Option Addr} {c : Nat} {l : List Int} (h : TTx w P a 2 c (fT l)) : PutT (w.alloc (.cells #[.int .i64 7, .slice a 2 c] 27)) w.heap.size a c l :=
  ⟨(MapKept.heap_alloc w _).1, h.any.below ((Below.refl _ _).alloc (Nat.le_refl _) _)⟩
theorem allocB {w : World} (o : Obj) : Below w.heap.size w (w.alloc o) := (Below.refl _ _).alloc (Nat.le_refl _) _
end Five
end Go.Proofs.Ytffgoekdjcempab
