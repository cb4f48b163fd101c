/- What Put, Join and the asks do to five sketches to which the same keys came. -/
import Derived.Test.YtffgoekdjcempabGr37
import Derived.Test.YtffgoekdjcempabGr40
import Derived.Test.YtffgoekdjcempabBloomAll
import Derived.Test.YtffgoekdjcempabFewAsk
namespace Go.Proofs.Ytffgoekdjcempab
open Go.ChangeShapes Go.WideShapes Go.ChangeAt Go.RowKit
open Tbl Five
namespace Five
def keyOk (l : List Int) : Prop := ∀ y ∈ l, 0 ≤ y ∧ y < 72057594037927936
theorem putB_any {w : World} {base : Nat} {v : Value} {l : List Int} {x : Int} (h : Own w base 3 1 v ((bL l).map iC)) (hl : keyOk l) (h0 : 0 ≤ x) (h1 : x < 72057594037927936) :
    Calls Try.prog 36 #[.agg #[.int .i64 5, v], .int .i64 x] w fun e w' => ∃ v', e = .returned (.tuple #[.agg #[.int .i64 5, v'], .int .i64 0]) ∧ Own w' w.heap.size 3 1 v' ((bL (l ++ [x])).map iC) ∧ Below w.heap.size w w' := by
  obtain ⟨a, c, rfl, T⟩ := h.tab
  have C := bput_ok 5 a _ c (bL l) x w T (b_good hl) h0 h1
  rw [b_snoc] at C
  exact C
theorem joinB_any {w : World} {base base2 : Nat} {v u : Value} {A B : List Int} (h : Own w base 3 1 v ((bL B).map iC)) (g : Own w base2 3 1 u ((bL A).map iC)) (hB : keyOk B) (hA : keyOk A) :
    Calls Try.prog 38 #[.agg #[.int .i64 5, v], .agg #[.int .i64 5, u]] w fun e w' => ∃ v', e = .returned (.tuple #[.agg #[.int .i64 5, v'], .int .i64 0]) ∧ Own w' w.heap.size 3 1 v' ((bL (A ++ B)).map iC) ∧ Below w.heap.size w w' := by
  obtain ⟨a, c, rfl, T⟩ := h.tab
  obtain ⟨b, d, rfl, U⟩ := g.tab
  have C := bjoin_ok 5 a b _ c _ d (bL B) (bL A) w T U (b_good hB) (b_good hA)
  rw [b_join] at C
  exact C
theorem putF_any {w : World} {base : Nat} {v : Value} {l : List Int} (x : Int) (h : Own w base 4 1 v ((fB l).map bC)) :
    Calls Try.prog 10 #[.agg #[.int .i64 100, .int .i64 3, v], .int .i64 x] w fun e w' => ∃ v', e = .returned (.tuple #[.agg #[.int .i64 100, .int .i64 3, v'], .int .i64 0]) ∧ Own w' w.heap.size 4 1 v' ((fB (l ++ [x])).map bC) ∧ Below w.heap.size w w' := by
  obtain ⟨a, c, rfl, T⟩ := h.tab
  rw [List.length_map, f_len] at T ⊢
  have C := fput_ok 100 3 a 100 c (fB l) x w T f_good
  rw [f_snoc] at C
  exact C
theorem joinF_any {w : World} {base base2 : Nat} {v u : Value} {A B : List Int} (h : Own w base 4 1 v ((fB B).map bC)) (g : Own w base2 4 1 u ((fB A).map bC)) :
    Calls Try.prog 11 #[.agg #[.int .i64 100, .int .i64 3, v], .agg #[.int .i64 100, .int .i64 3, u]] w fun e w' => ∃ v', e = .returned (.tuple #[.agg #[.int .i64 100, .int .i64 3, v'], .int .i64 0]) ∧ Own w' w.heap.size 4 1 v' ((fB (A ++ B)).map bC) ∧ Below w.heap.size w w' := by
  obtain ⟨a, c, rfl, T⟩ := h.tab
  obtain ⟨b, d, rfl, U⟩ := g.tab
  rw [List.length_map, f_len] at T U ⊢
  rw [List.length_map, f_len]
  have C := fjoin_ok 100 3 a b 100 c 100 d (fB B) (fB A) w T U f_good f_good
  rw [f_join] at C
  exact C
theorem hasF_any {w : World} {base : Nat} {v : Value} {l : List Int} {x : Int} (h : Own w base 4 1 v ((fB l).map bC)) (hx : x ∈ l) :
    Calls Try.prog 44 #[.agg #[.int .i64 100, .int .i64 3, v], .int .i64 x] w fun e w' => e = .returned (.tuple #[.bool true, .int .i64 0]) ∧ Below w.heap.size w w' := by
  obtain ⟨a, c, rfl, T⟩ := h.tab
  rw [List.length_map, f_len] at T ⊢
  have C := fhas_ok 100 3 a 100 c (fB l) x w T f_good
  rw [f_has hx] at C
  exact C
theorem putT_any {w : World} {P : Nat → Prop} {a : Option Addr} {c : Nat} {l : List Int} (x : Int) (h : TTx w P a 2 c (fT l)) (hl : l.length < 60) :
    Calls Try.prog 12 #[.agg #[.int .i64 7, .slice a 2 c], .int .i64 x, .int .i64 1] w fun e w' => ∃ (a' : Option Addr) (c' : Nat), e = .returned (.tuple #[.agg #[.int .i64 7, .slice a' 2 c'], .int .i64 0]) ∧ TTx w' (fun b => w.heap.size ≤ b) a' 2 c' (fT (l ++ [x])) ∧ Below w.heap.size w w' := by
  have C := tput_fine 7 x 1 a 2 c (fT l) P w h (t_good (by omega)) (by decide) (by decide) (by rw [t_snoc]; exact Tbl.good_fits (t_good (by rw [List.length_append]; simp only [List.length_singleton]; omega)))
  rw [t_snoc] at C
  exact C
theorem joinT_any {w : World} {P P2 : Nat → Prop} {a b : Option Addr} {c d : Nat} {A B : List Int} (h : TTx w P a 2 c (fT B)) (g : TTx w P2 b 2 d (fT A)) (hl : (A ++ B).length ≤ 60) :
    Calls Try.prog 13 #[.agg #[.int .i64 7, .slice a 2 c], .agg #[.int .i64 7, .slice b 2 d]] w fun e w' => ∃ (a' : Option Addr) (c' : Nat), e = .returned (.tuple #[.agg #[.int .i64 7, .slice a' 2 c'], .int .i64 0]) ∧ TTx w' (fun b => w.heap.size ≤ b) a' 2 c' (fT (A ++ B)) ∧ Below w.heap.size w w' := by
  have h1 : A.length ≤ 60 := by rw [List.length_append] at hl; omega
  have h2 : B.length ≤ 60 := by rw [List.length_append] at hl; omega
  have C := tjoin_fine 7 a b 2 c d (fT B) (fT A) P P2 w h g (t_good h2) (t_good h1) (by rw [t_join]; exact Tbl.good_fits (t_good hl))
  rw [t_join] at C
  exact C
theorem askT_any {w : World} {P : Nat → Prop} {a : Option Addr} {c : Nat} {l : List Int} (x : Int) (h : TTx w P a 2 c (fT l)) (hl : l.length ≤ 60) :
    Calls Try.prog 42 #[.agg #[.int .i64 7, .slice a 2 c], .int .i64 x] w fun e w' => e = .returned (.tuple #[.int .i64 (Tbl.askR 7 x (fT l)), .int .i64 0]) ∧ Below w.heap.size w w' := task_ok 7 x a 2 c (fT l) P w h (t_good hl)
theorem putR_any {w : World} {base : Nat} {v : Value} {l : List Int} {x : Int} (h : Own w base 3 1 v ((rL l).map iC)) (h0 : 0 ≤ x) (h1 : x < 72057594037927936) :
    Calls Try.prog 37 #[v, .int .i64 x] w fun e w' => ∃ v', e = .returned (.tuple #[v', .int .i64 0]) ∧ Own w' w.heap.size 3 1 v' ((rL (l ++ [x])).map iC) ∧ Below w.heap.size w w' := by
  obtain ⟨a, c, rfl, T⟩ := h.tab
  have C := regsPut_any a _ c (rL l) x w T
  rw [(r_snoc l h0 h1).1, (r_snoc l h0 h1).2] at C
  exact C
theorem joinR_any {w : World} {base base2 : Nat} {v u : Value} {A B : List Int} (h : Own w base 3 1 v ((rL B).map iC)) (g : Own w base2 3 1 u ((rL A).map iC)) :
    Calls Try.prog 39 #[v, u] w fun e w' => ∃ v', e = .returned (.tuple #[v', .int .i64 0]) ∧ Own w' w.heap.size 3 1 v' ((rL (A ++ B)).map iC) ∧ Below w.heap.size w w' := by
  obtain ⟨a, c, rfl, T⟩ := h.tab
  obtain ⟨b, d, rfl, U⟩ := g.tab
  have C := regsJoin_any a b _ c _ d (rL B) (rL A) w T U
  rw [(r_join A B).1, (r_join A B).2] at C
  exact C
theorem putC_any {w : World} {base : Nat} {v : Value} {L : Int} {C : List (Int × Int)} {l : List Int} (x : Int) (h : Own w base 36 2 v (C.map iiC)) (hN : Few.Near 4 (ones l) L C) (hl : l.length < 60) :
    Calls Try.prog 5 #[.agg #[.int .i64 4, .int .i64 L, v], .int .i64 x, .int .i64 1] w fun e w' => ∃ (L' : Int) (C' : List (Int × Int)) (v' : Value), e = .returned (.tuple #[.agg #[.int .i64 4, .int .i64 L', v'], .int .i64 0]) ∧ Own w' w.heap.size 36 2 v' (C'.map iiC) ∧ Few.Near 4 (ones (l ++ [x])) L' C' ∧ Below w.heap.size w w' := by
  obtain ⟨a, c, rfl, T⟩ := h.tab
  obtain ⟨e0, hN'⟩ := c_snoc (x := x) hN hl
  refine (fewPut_any 4 L a _ c C x 1 w T).mono ?_
  rintro e w' ⟨Kr, Lr, Cr, v', rfl, hO, hw, hb⟩
  rw [e0] at hO ⊢
  rcases hO with ⟨_, rfl, rfl, rfl⟩ | ⟨h4, _⟩
  · exact ⟨_, _, v', rfl, hw, hN', hb⟩
  · exact absurd rfl h4
theorem joinC_any {w : World} {base base2 : Nat} {v u : Value} {L M : Int} {C D : List (Int × Int)} {A B : List Int} (h : Own w base 36 2 v (D.map iiC)) (g : Own w base2 36 2 u (C.map iiC)) (hB : Few.Near 4 (ones B) M D) (hA : Few.Near 4 (ones A) L C) (hl : (A ++ B).length ≤ 60) :
    Calls Try.prog 14 #[.agg #[.int .i64 4, .int .i64 M, v], .agg #[.int .i64 4, .int .i64 L, u]] w fun e w' => ∃ (L' : Int) (C' : List (Int × Int)) (v' : Value), e = .returned (.tuple #[.agg #[.int .i64 4, .int .i64 L', v'], .int .i64 0]) ∧ Own w' w.heap.size 36 2 v' (C'.map iiC) ∧ Few.Near 4 (ones B ++ ones A) L' C' ∧ Below w.heap.size w w' := by
  obtain ⟨a, c, rfl, T⟩ := h.tab
  obtain ⟨b, d, rfl, U⟩ := g.tab
  obtain ⟨e0, hN'⟩ := c_join hA hB hl
  refine (fewJoin_any 4 M a _ c D 4 L b _ d C w T U).mono ?_
  rintro e w' ⟨Kr, Lr, Cr, v', rfl, hO, hw, hb⟩
  rw [e0] at hO ⊢
  rcases hO with ⟨_, rfl, rfl, rfl⟩ | ⟨h4, _⟩
  · exact ⟨_, _, v', rfl, hw, hN', hb⟩
  · exact absurd rfl h4
theorem askC_any {w : World} {base : Nat} {v : Value} {L : Int} {C A : List (Int × Int)} (x : Int) (h : Own w base 36 2 v (C.map iiC)) (hN : Few.Near 4 A L C) :
    Calls Try.prog 43 #[.agg #[.int .i64 4, .int .i64 L, v], .int .i64 x] w fun e w' => e = .returned (.tuple #[.int .i64 (oft x C), .int .i64 (oft x C + L), .int .i64 0]) ∧ Below w.heap.size w w' := by
  obtain ⟨a, c, rfl, T⟩ := h.tab
  exact fewAsk_ok 4 L a _ c C x w T hN.good
end Five
end Go.Proofs.Ytffgoekdjcempab
