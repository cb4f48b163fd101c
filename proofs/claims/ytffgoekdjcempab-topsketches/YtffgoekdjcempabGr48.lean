/- Texts joined: TopFresh, TopHold. -/
import Derived.Test.YtffgoekdjcempabGr43
import Derived.Test.YtffgoekdjcempabRepeatZero
import Derived.Test.YtffgoekdjcempabRepeatFalse
import Derived.Test.YtffgoekdjcempabGr8
import Derived.Test.YtffgoekdjcempabTopBox
import Derived.Deep.DeepCutAuto
import Derived.Test.YtffgoekdjcempabGr13
/- The contract of the laws' own fresh (the first closure of TopSketches): five empty sketches. -/
namespace Go.Proofs.Ytffgoekdjcempab
open Go.ChangeShapes Go.WideShapes Go.ChangeAt Go.RowKit
open Tbl Five
open Few (kept_blk)
namespace Five
/-- two own rows in a literal -/
theorem tt_rows {w : World} {base : Nat} {t : TypeId} {a b : Option Addr} {n c m d : Nat} {r q : List Int} {A : Nat} (hA : w.heap.size = A) (hB : base ≤ A) (h : Own w base 3 1 (.slice a n c) (r.map iC)) (g : Own w base 3 1 (.slice b m d) (q.map iC)) : TTx (w.alloc (.cells #[.slice a n c, .slice b m d] t)) (fun x => base ≤ x) (some ⟨A, 0, none⟩) 2 2 [r, q] := by
  subst hA
  have h3 := tab_lit w t 1 2 ([(⟨a, n, c, r⟩ : Sl Int), ⟨b, m, d, q⟩].map slC) #[.slice a n c, .slice b m d] rfl rfl (by intro r hr; obtain ⟨y, _, rfl⟩ := List.mem_map.1 hr; rfl) (by decide) w.heap.size rfl
  refine ⟨[(⟨a, n, c, r⟩ : Sl Int), ⟨b, m, d, q⟩], rfl, h3, fun s hs => ?_, fun _ ad had => ?_, fun s hs hl ad had => ?_⟩
  · rcases List.mem_cons.1 hs with rfl | hs
    · exact (h.alloc _).tab_of
    · rw [List.mem_singleton] at hs
      subst hs
      exact (g.alloc _).tab_of
  · rw [Option.some.injEq] at had
    subst had
    exact hB
  · rcases List.mem_cons.1 hs with rfl | hs
    · obtain ⟨a', c', e, _, h1⟩ := own_val h
      simp only [Value.slice.injEq] at e
      exact h1 ad (by rw [← e.1]; exact had)
    · rw [List.mem_singleton] at hs
      subst hs
      obtain ⟨a', c', e, _, h1⟩ := own_val g
      simp only [Value.slice.injEq] at e
      exact h1 ad (by rw [← e.1]; exact had)
/-- five sketches to which l came, all their memory at base and above -/
structure Hold (w : World) (base : Nat) (v1 v2 : Value) (a : Option Addr) (c : Nat) (v4 : Value) (L : Int) (C : List (Int × Int)) (v5 : Value) (l : List Int) : Prop where
  b : Own w base 3 1 v1 ((bL l).map iC)
  f : Own w base 4 1 v2 ((fB l).map bC)
  t : TTx w (fun x => base ≤ x) a 2 c (fT l)
  r : Own w base 3 1 v4 ((rL l).map iC)
  c : Own w base 36 2 v5 (C.map iiC)
  near : Few.Near 4 (ones l) L C
theorem Hold.below {w w' : World} {base : Nat} {v1 v2 : Value} {a : Option Addr} {c : Nat} {v4 : Value} {L : Int} {C : List (Int × Int)} {v5 : Value} {l : List Int} (h : Hold w base v1 v2 a c v4 L C v5 l) (hb : Below w.heap.size w w') : Hold w' base v1 v2 a c v4 L C v5 l :=
  ⟨h.b.below hb, h.f.below hb, h.t.below hb, h.r.below hb, h.c.below hb, h.near⟩
theorem Hold.base_le {w : World} {base B : Nat} {v1 v2 : Value} {a : Option Addr} {c : Nat} {v4 : Value} {L : Int} {C : List (Int × Int)} {v5 : Value} {l : List Int} (h : Hold w base v1 v2 a c v4 L C v5 l) (hB : B ≤ base) : Hold w B v1 v2 a c v4 L C v5 l :=
  ⟨h.b.base_le hB, h.f.base_le hB, h.t.weak (fun x hx => by omega), h.r.base_le hB, h.c.base_le hB, h.near⟩
def fiveV (v1 v2 : Value) (a : Option Addr) (c : Nat) (v4 : Value) (L : Int) (v5 : Value) : Value := .agg #[.int .i64 5, v1, .int .i64 100, .int .i64 3, v2, .int .i64 7, .slice a 2 c, v4, .int .i64 4, .int .i64 L, v5]
end Five

set_option maxRecDepth 100000 in
set_option maxHeartbeats 2000000 in
theorem fresh_any (w : World) : Calls Try.prog 32 #[] w fun e w' => ∃ (v1 v2 : Value) (a : Option Addr) (c : Nat) (v4 v5 : Value), e = .returned (fiveV v1 v2 a c v4 0 v5) ∧ Hold w' w.heap.size v1 v2 a c v4 0 [] v5 [] ∧ Below w.heap.size w w' := by
  unfold fiveV
  have hb0 : Below w.heap.size w (w.alloc (.cells #[.int .i64 0, .slice none 0 0, .int .i64 0, .int .i64 0, .slice none 0 0, .int .i64 0, .slice none 0 0, .slice none 0 0, .int .i64 0, .int .i64 0, .slice none 0 0] 71)) := (Below.refl _ _).alloc (Nat.le_refl _) _
  have k0 := (MapKept.heap_alloc w (.cells #[.int .i64 0, .slice none 0 0, .int .i64 0, .int .i64 0, .slice none 0 0, .int .i64 0, .slice none 0 0, .slice none 0 0, .int .i64 0, .int .i64 0, .slice none 0 0] 71)).1
  have hs0 : (w.alloc (.cells #[.int .i64 0, .slice none 0 0, .int .i64 0, .int .i64 0, .slice none 0 0, .int .i64 0, .slice none 0 0, .slice none 0 0, .int .i64 0, .int .i64 0, .slice none 0 0] 71)).heap.size = w.heap.size + 1 := by simp
  obtain ⟨v0, hv0⟩ : ∃ v, w.alloc (.cells #[.int .i64 0, .slice none 0 0, .int .i64 0, .int .i64 0, .slice none 0 0, .int .i64 0, .slice none 0 0, .slice none 0 0, .int .i64 0, .int .i64 0, .slice none 0 0] 71) = v := ⟨_, rfl⟩
  rw [hv0] at hb0 k0 hs0
  have HV := Lib.hid hv0
  have HB0 := Lib.hid hb0
  have K0 := Lib.hid k0
  have HS := Lib.hid hs0
  clear hb0 k0 hs0 hv0
  go_enter Try.func32, Try.ntmps32
  go_upto_region 1 with fail
  rw [HV.out]
  clear HV
  obtain ⟨X, hX⟩ : ∃ X, w.heap.size = X := ⟨_, rfl⟩
  have HX := Lib.hid hX
  rw [hX] at K0 HS ⊢
  clear hX
  go_wp2_with fail
  refine (repeat_false (some ⟨v0.heap.size, 0, none⟩) 1 100 _ (tab_lit v0 4 1 1 ([false].map bC) #[.bool false] rfl rfl (rows_of bC_len _) (by decide) _ rfl) (by decide) (by decide)).mono ?_
  rintro e v1 ⟨rfl, hF, hb⟩
  have hb1 : Below v0.heap.size v0 v1 := below_on ((Below.refl _ _).alloc (Nat.le_refl _) _) hb
  have hF1 := hF.base_le (B := X + 1) (by rw [← HS.out]; simp)
  have K1 := Lib.hid ((hb1.block X (by rw [HS.out]; omega)).trans K0.out)
  have HB1 := Lib.hid (below_on HB0.out hb1)
  have h1 : X + 1 ≤ v1.heap.size := by have := (Array.getElem?_eq_some_iff.1 K1.out).1; omega
  have H1 := Lib.hid h1
  generalize (v0.alloc (.cells #[.bool false] 4)).heap.size = g1 at *
  have F1 := Lib.hid hF1
  clear hF hb hb1 hF1 h1 K0 HB0 HS
  go_wp2_with fail
  refine (repeat_zero (some ⟨v1.heap.size, 0, none⟩) 1 7 _ (tab_lit v1 3 1 1 ([(0 : Int)].map iC) #[.int .i64 0] rfl rfl (rows_of iC_len _) (by decide) _ rfl) (by decide) (by decide)).mono ?_
  rintro e v2 ⟨rfl, hF, hb⟩
  have hb1 : Below v1.heap.size v1 v2 := below_on ((Below.refl _ _).alloc (Nat.le_refl _) _) hb
  have hF1 := hF.base_le (B := X + 1) (by have := H1.out; simp; omega)
  have K2 := Lib.hid (kept_blk hb1 K1.out)
  have HB2 := Lib.hid (below_on HB1.out hb1)
  have F2 := Lib.hid (F1.out.below hb1)
  have h2 : X + 1 ≤ v2.heap.size := by have := (Array.getElem?_eq_some_iff.1 K2.out).1; omega
  have H2 := Lib.hid h2
  generalize (v1.alloc (.cells #[.int .i64 0] 3)).heap.size = g2 at *
  have R2 := Lib.hid hF1
  clear hF hb hb1 hF1 h2 K1 HB1 F1 H1
  go_wp2_with fail
  refine (repeat_zero (some ⟨v2.heap.size, 0, none⟩) 1 7 _ (tab_lit v2 3 1 1 ([(0 : Int)].map iC) #[.int .i64 0] rfl rfl (rows_of iC_len _) (by decide) _ rfl) (by decide) (by decide)).mono ?_
  rintro e v3 ⟨rfl, hF, hb⟩
  have hb1 : Below v2.heap.size v2 v3 := below_on ((Below.refl _ _).alloc (Nat.le_refl _) _) hb
  have hF1 := hF.base_le (B := X + 1) (by have := H2.out; simp; omega)
  have K3 := (kept_blk hb1 K2.out)
  have HB3 := (below_on HB2.out hb1)
  have F3 := (F2.out.below hb1)
  have R3 := (R2.out.below hb1)
  have h3 : X + 1 ≤ v3.heap.size := by have := (Array.getElem?_eq_some_iff.1 K3).1; omega
  generalize (v2.alloc (.cells #[.int .i64 0] 3)).heap.size = g3 at *
  have ht := tt_rows (t := 53) rfl h3 R3 hF1
  have hbl : Below v3.heap.size v3 (v3.alloc (.cells #[.slice (some ⟨g2, 0, none⟩) 7 7, .slice (some ⟨g3, 0, none⟩) 7 7] 53)) := (Below.refl _ _).alloc (Nat.le_refl _) _
  obtain ⟨v4, hv4⟩ : ∃ v, v3.alloc (.cells #[.slice (some ⟨g2, 0, none⟩) 7 7, .slice (some ⟨g3, 0, none⟩) 7 7] 53) = v := ⟨_, rfl⟩
  have hs4 : (v3.alloc (.cells #[.slice (some ⟨g2, 0, none⟩) 7 7, .slice (some ⟨g3, 0, none⟩) 7 7] 53)).heap.size = v3.heap.size + 1 := by simp
  rw [hv4] at ht hbl hs4
  have K4 := Lib.hid (kept_blk hbl K3)
  have HB4 := Lib.hid (below_on HB3 hbl)
  have F4 := Lib.hid (F3.below hbl)
  have T4 := Lib.hid ht
  have H4 : Hid (X + 1 ≤ v4.heap.size) := Lib.hid (by have := (Array.getElem?_eq_some_iff.1 K4.out).1; omega)
  have HV4 := Lib.hid hv4
  have HS4 := Lib.hid hs4
  clear hF hb hb1 hF1 h3 K2 HB2 F2 H2 R2 K3 HB3 F3 R3 ht hbl hv4 hs4
  go_wp2_with fail
  rw [HV4.out]
  clear HV4
  generalize v3.heap.size = g4 at *
  refine (repeat_zero (some ⟨g4 + 1, 0, none⟩) 1 4 _ (tab_lit v4 3 1 1 ([(0 : Int)].map iC) #[.int .i64 0] rfl rfl (rows_of iC_len _) (by decide) _ HS4.out.symm) (by decide) (by decide)).mono ?_
  rintro e v5 ⟨rfl, hF, hb⟩
  have hb1 : Below v4.heap.size v4 v5 := below_on ((Below.refl _ _).alloc (Nat.le_refl _) _) hb
  have hF1 := hF.base_le (B := X + 1) (by have := H4.out; simp; omega)
  have K5 := kept_blk hb1 K4.out
  have HB5 := Lib.hid (below_on HB4.out hb1)
  have F5 := Lib.hid (F4.out.below hb1)
  have T5 := Lib.hid (T4.out.below hb1)
  generalize (v4.alloc (.cells #[.int .i64 0] 3)).heap.size = g5 at *
  have R5 := Lib.hid hF1
  clear hF hb hb1 hF1 K4 HB4 F4 T4 H4
  obtain ⟨x0, x1, x2, x3, x4, x5, x6, x7, x8, x9, x10⟩ := all_cells K5
  obtain ⟨f0, f1, f2, f3, f4, f5, f6, f7, f8, f9, f10⟩ := all_frozen K5
  have KZ := Lib.hid (all_cells (all_set K5 (.int .i64 5) (.slice none 0 0) (.int .i64 100) (.int .i64 3) (.slice (some ⟨g1, 0, none⟩) 100 100) (.int .i64 7) (.slice (some ⟨g4, 0, none⟩) 2 2) (.slice (some ⟨g5, 0, none⟩) 4 4) (.int .i64 4) (.int .i64 0) (.slice none 0 0)))
  have FZ := Lib.hid (all_own (b := X) F5.out (Nat.lt_succ_self X) (.int .i64 5) (.slice none 0 0) (.int .i64 100) (.int .i64 3) (.slice (some ⟨g1, 0, none⟩) 100 100) (.int .i64 7) (.slice (some ⟨g4, 0, none⟩) 2 2) (.slice (some ⟨g5, 0, none⟩) 4 4) (.int .i64 4) (.int .i64 0) (.slice none 0 0))
  have RZ := Lib.hid (all_own (b := X) R5.out (Nat.lt_succ_self X) (.int .i64 5) (.slice none 0 0) (.int .i64 100) (.int .i64 3) (.slice (some ⟨g1, 0, none⟩) 100 100) (.int .i64 7) (.slice (some ⟨g4, 0, none⟩) 2 2) (.slice (some ⟨g5, 0, none⟩) 4 4) (.int .i64 4) (.int .i64 0) (.slice none 0 0))
  have TZ := Lib.hid (all_tt (b := X) T5.out (fun x hx => by omega) (.int .i64 5) (.slice none 0 0) (.int .i64 100) (.int .i64 3) (.slice (some ⟨g1, 0, none⟩) 100 100) (.int .i64 7) (.slice (some ⟨g4, 0, none⟩) 2 2) (.slice (some ⟨g5, 0, none⟩) 4 4) (.int .i64 4) (.int .i64 0) (.slice none 0 0))
  have BZ := Lib.hid (all_below (b := X) HB5.out (Nat.le_of_eq HX.out) (.int .i64 5) (.slice none 0 0) (.int .i64 100) (.int .i64 3) (.slice (some ⟨g1, 0, none⟩) 100 100) (.int .i64 7) (.slice (some ⟨g4, 0, none⟩) 2 2) (.slice (some ⟨g5, 0, none⟩) 4 4) (.int .i64 4) (.int .i64 0) (.slice none 0 0))
  clear K5 HB5 F5 T5 R5
  go_wp2_with fail
  obtain ⟨z0, z1, z2, z3, z4, z5, z6, z7, z8, z9, z10⟩ := KZ.out
  generalize ((((((((((v5.setCell ⟨X, 0, none⟩ (.int .i64 5)).setCell ⟨X, 1, none⟩ (.slice none 0 0)).setCell ⟨X, 2, none⟩ (.int .i64 100)).setCell ⟨X, 3, none⟩ (.int .i64 3)).setCell ⟨X, 4, none⟩ (.slice (some ⟨g1, 0, none⟩) 100 100)).setCell ⟨X, 5, none⟩ (.int .i64 7)).setCell ⟨X, 6, none⟩ (.slice (some ⟨g4, 0, none⟩) 2 2)).setCell ⟨X, 7, none⟩ (.slice (some ⟨g5, 0, none⟩) 4 4)).setCell ⟨X, 8, none⟩ (.int .i64 4)).setCell ⟨X, 9, none⟩ (.int .i64 0)).setCell ⟨X, 10, none⟩ (.slice none 0 0) = w9 at *
  clear x0 x1 x2 x3 x4 x5 x6 x7 x8 x9 x10 f0 f1 f2 f3 f4 f5 f6 f7 f8 f9 f10
  try simp only [Exit.inBlock, Exit.then]
  refine bodyPost_ret (by simp [results, Try.results32, go_sem, z0, z1, z2, z3, z4, z5, z6, z7, z8, z9, z10, Result.andThen]; try rfl) rfl ?_
  refine ⟨_, _, _, _, _, _, rfl, ?_, BZ.out⟩
  rw [HX.out]
  exact Hold.base_le ⟨Own.nil _ _ _ _, FZ.out, TZ.out, RZ.out, Own.nil _ _ _ _, c_nil⟩ (Nat.le_succ X)
end Go.Proofs.Ytffgoekdjcempab

/- Five sketches in one variable (the block Y) beside a result's block X: what stays and what a store changes. -/
namespace Go.Proofs.Ytffgoekdjcempab
open Go.ChangeShapes Go.WideShapes Go.ChangeAt Go.RowKit
open Tbl Five
open Few (kept_blk)
namespace Five
theorem own_blk {w : World} {base : Nat} {e : TypeId} {k : Nat} {v : Value} {R : List (List Value)} (h : Own w base e k v R) : ∀ g, v.ownBlock = some g → base ≤ g ∧ g < w.heap.size := by
  intro g hg
  rcases h.own.2 with ⟨rfl, _⟩ | ⟨b, cap, cur, rfl, hb, hw, _⟩
  · cases hg
  · cases hg
    exact ⟨hb, (Array.getElem?_eq_some_iff.1 hw).1⟩
theorem own_off {w : World} {base : Nat} {e : TypeId} {k : Nat} {v : Value} {R : List (List Value)} (h : Own w base e k v R) {Y : Nat} (hY : v.ownBlock ≠ some Y) (i : Nat) (u : Value) : Own (w.setCell ⟨Y, i, none⟩ u) base e k v R :=
  h.keptBy (grown_cell w ⟨Y, i, none⟩ u) (Or.inr hY)
theorem own_ne {w : World} {base : Nat} {e : TypeId} {k : Nat} {v : Value} {R : List (List Value)} (h : Own w base e k v R) {Y : Nat} (hY : Y < base) : v.ownBlock ≠ some Y := fun hg => by have := (own_blk h Y hg).1; omega
structure Bx (w0 w : World) (X Y : Nat) (v1 v2 : Value) (a : Option Addr) (c : Nat) (v4 : Value) (L : Int) (C : List (Int × Int)) (v5 : Value) (l1 l2 l3 l4 l5 : List Int) : Prop where
  res : w.heap[X]? = some (.cells #[.int .i64 0, .slice none 0 0, .int .i64 0, .int .i64 0, .slice none 0 0, .int .i64 0, .slice none 0 0, .slice none 0 0, .int .i64 0, .int .i64 0, .slice none 0 0] 71 (0, 0))
  box : w.heap[Y]? = some (.cells #[.int .i64 5, v1, .int .i64 100, .int .i64 3, v2, .int .i64 7, .slice a 2 c, v4, .int .i64 4, .int .i64 L, v5] 71 (0, 0))
  lt : X < Y
  b : Own w (X + 1) 3 1 v1 ((bL l1).map iC)
  nb : v1.ownBlock ≠ some Y
  f : Own w (X + 1) 4 1 v2 ((fB l2).map bC)
  nf : v2.ownBlock ≠ some Y
  t : TTx w (fun x => X + 1 ≤ x ∧ x ≠ Y) a 2 c (fT l3)
  r : Own w (X + 1) 3 1 v4 ((rL l4).map iC)
  nr : v4.ownBlock ≠ some Y
  c : Own w (X + 1) 36 2 v5 (C.map iiC)
  nc : v5.ownBlock ≠ some Y
  near : Few.Near 4 (ones l5) L C
  out : Below w0.heap.size w0 w
theorem Bx.size {w0 w : World} {X Y : Nat} {v1 v2 : Value} {a : Option Addr} {c : Nat} {v4 : Value} {L : Int} {C : List (Int × Int)} {v5 : Value} {l1 l2 l3 l4 l5 : List Int} (h : Bx w0 w X Y v1 v2 a c v4 L C v5 l1 l2 l3 l4 l5) : Y < w.heap.size := (Array.getElem?_eq_some_iff.1 h.box).1
theorem Bx.below {w0 w : World} {X Y : Nat} {v1 v2 : Value} {a : Option Addr} {c : Nat} {v4 : Value} {L : Int} {C : List (Int × Int)} {v5 : Value} {l1 l2 l3 l4 l5 : List Int} {w' : World} (h : Bx w0 w X Y v1 v2 a c v4 L C v5 l1 l2 l3 l4 l5) (hb : Below w.heap.size w w') : Bx w0 w' X Y v1 v2 a c v4 L C v5 l1 l2 l3 l4 l5 :=
  ⟨kept_blk hb h.res, kept_blk hb h.box, h.lt, h.b.below hb, h.nb, h.f.below hb, h.nf, h.t.below hb, h.r.below hb, h.nr, h.c.below hb, h.nc, h.near, below_on h.out hb⟩
theorem Bx.putB {w0 w : World} {X Y : Nat} {v1 v2 : Value} {a : Option Addr} {c : Nat} {v4 : Value} {L : Int} {C : List (Int × Int)} {v5 : Value} {l1 l2 l3 l4 l5 : List Int} {w' : World} {v' : Value} {l' : List Int} (g : Own w' w.heap.size 3 1 v' ((bL l').map iC)) (h : Bx w0 w X Y v1 v2 a c v4 L C v5 l1 l2 l3 l4 l5) (hb : Below w.heap.size w w') (hX : w0.heap.size ≤ Y) : Bx w0 ((w'.setCell ⟨Y, 0, none⟩ (.int .i64 5)).setCell ⟨Y, 1, none⟩ v') X Y v' v2 a c v4 L C v5 l' l2 l3 l4 l5 := by
  have k := h.below hb
  have K := k.box
  exact ⟨by
        have hne : X ≠ Y := by have := h.lt; omega
        rw [Below.heap_setCell _ _ _ _ hne, Below.heap_setCell _ _ _ _ hne]
        exact k.res,
    b_set K (.int .i64 5) v', h.lt, (own_off (own_off (g.base_le (show X + 1 ≤ w.heap.size by have := h.size; have := h.lt; omega)) (own_ne g h.size) 0 _) (own_ne g h.size) 1 _), (own_ne g h.size), (own_off (own_off k.f k.nf 0 _) k.nf 1 _), k.nf, ((k.t.set (fun _ hx => hx.2) 0 _).set (fun _ hx => hx.2) 1 _), (own_off (own_off k.r k.nr 0 _) k.nr 1 _), k.nr, (own_off (own_off k.c k.nc 0 _) k.nc 1 _), k.nc, k.near, ((k.out.setCell (p := ⟨Y, 0, none⟩) hX _).setCell (p := ⟨Y, 1, none⟩) hX _)⟩
theorem Bx.putF {w0 w : World} {X Y : Nat} {v1 v2 : Value} {a : Option Addr} {c : Nat} {v4 : Value} {L : Int} {C : List (Int × Int)} {v5 : Value} {l1 l2 l3 l4 l5 : List Int} {w' : World} {v' : Value} {l' : List Int} (g : Own w' w.heap.size 4 1 v' ((fB l').map bC)) (h : Bx w0 w X Y v1 v2 a c v4 L C v5 l1 l2 l3 l4 l5) (hb : Below w.heap.size w w') (hX : w0.heap.size ≤ Y) : Bx w0 (((w'.setCell ⟨Y, 2, none⟩ (.int .i64 100)).setCell ⟨Y, 3, none⟩ (.int .i64 3)).setCell ⟨Y, 4, none⟩ v') X Y v1 v' a c v4 L C v5 l1 l' l3 l4 l5 := by
  have k := h.below hb
  have K := k.box
  exact ⟨by
        have hne : X ≠ Y := by have := h.lt; omega
        rw [Below.heap_setCell _ _ _ _ hne, Below.heap_setCell _ _ _ _ hne, Below.heap_setCell _ _ _ _ hne]
        exact k.res,
    f_set K (.int .i64 100) (.int .i64 3) v', h.lt, (own_off (own_off (own_off k.b k.nb 2 _) k.nb 3 _) k.nb 4 _), k.nb, (own_off (own_off (own_off (g.base_le (show X + 1 ≤ w.heap.size by have := h.size; have := h.lt; omega)) (own_ne g h.size) 2 _) (own_ne g h.size) 3 _) (own_ne g h.size) 4 _), (own_ne g h.size), (((k.t.set (fun _ hx => hx.2) 2 _).set (fun _ hx => hx.2) 3 _).set (fun _ hx => hx.2) 4 _), (own_off (own_off (own_off k.r k.nr 2 _) k.nr 3 _) k.nr 4 _), k.nr, (own_off (own_off (own_off k.c k.nc 2 _) k.nc 3 _) k.nc 4 _), k.nc, k.near, (((k.out.setCell (p := ⟨Y, 2, none⟩) hX _).setCell (p := ⟨Y, 3, none⟩) hX _).setCell (p := ⟨Y, 4, none⟩) hX _)⟩
theorem Bx.putT {w0 w : World} {X Y : Nat} {v1 v2 : Value} {a : Option Addr} {c : Nat} {v4 : Value} {L : Int} {C : List (Int × Int)} {v5 : Value} {l1 l2 l3 l4 l5 : List Int} {w' : World} {a' : Option Addr} {c' : Nat} {l' : List Int} (g : TTx w' (fun x => w.heap.size ≤ x) a' 2 c' (fT l')) (h : Bx w0 w X Y v1 v2 a c v4 L C v5 l1 l2 l3 l4 l5) (hb : Below w.heap.size w w') (hX : w0.heap.size ≤ Y) : Bx w0 ((w'.setCell ⟨Y, 5, none⟩ (.int .i64 7)).setCell ⟨Y, 6, none⟩ (.slice a' 2 c')) X Y v1 v2 a' c' v4 L C v5 l1 l2 l' l4 l5 := by
  have k := h.below hb
  have K := k.box
  exact ⟨by
        have hne : X ≠ Y := by have := h.lt; omega
        rw [Below.heap_setCell _ _ _ _ hne, Below.heap_setCell _ _ _ _ hne]
        exact k.res,
    t_set K (.int .i64 7) (.slice a' 2 c'), h.lt, (own_off (own_off k.b k.nb 5 _) k.nb 6 _), k.nb, (own_off (own_off k.f k.nf 5 _) k.nf 6 _), k.nf, (((g.weak (Q := fun x => X + 1 ≤ x ∧ x ≠ Y) (fun x hx => by have := h.size; have := h.lt; omega)).set (fun _ hx => hx.2) 5 _).set (fun _ hx => hx.2) 6 _), (own_off (own_off k.r k.nr 5 _) k.nr 6 _), k.nr, (own_off (own_off k.c k.nc 5 _) k.nc 6 _), k.nc, k.near, ((k.out.setCell (p := ⟨Y, 5, none⟩) hX _).setCell (p := ⟨Y, 6, none⟩) hX _)⟩
theorem Bx.putR {w0 w : World} {X Y : Nat} {v1 v2 : Value} {a : Option Addr} {c : Nat} {v4 : Value} {L : Int} {C : List (Int × Int)} {v5 : Value} {l1 l2 l3 l4 l5 : List Int} {w' : World} {v' : Value} {l' : List Int} (g : Own w' w.heap.size 3 1 v' ((rL l').map iC)) (h : Bx w0 w X Y v1 v2 a c v4 L C v5 l1 l2 l3 l4 l5) (hb : Below w.heap.size w w') (hX : w0.heap.size ≤ Y) : Bx w0 (w'.setCell ⟨Y, 7, none⟩ v') X Y v1 v2 a c v' L C v5 l1 l2 l3 l' l5 := by
  have k := h.below hb
  have K := k.box
  exact ⟨by
        have hne : X ≠ Y := by have := h.lt; omega
        rw [Below.heap_setCell _ _ _ _ hne]
        exact k.res,
    r_set K v', h.lt, (own_off k.b k.nb 7 _), k.nb, (own_off k.f k.nf 7 _), k.nf, (k.t.set (fun _ hx => hx.2) 7 _), (own_off (g.base_le (show X + 1 ≤ w.heap.size by have := h.size; have := h.lt; omega)) (own_ne g h.size) 7 _), (own_ne g h.size), (own_off k.c k.nc 7 _), k.nc, k.near, (k.out.setCell (p := ⟨Y, 7, none⟩) hX _)⟩
theorem Bx.putC {w0 w : World} {X Y : Nat} {v1 v2 : Value} {a : Option Addr} {c : Nat} {v4 : Value} {L : Int} {C : List (Int × Int)} {v5 : Value} {l1 l2 l3 l4 l5 : List Int} {w' : World} {L' : Int} {C' : List (Int × Int)} {v' : Value} {l' : List Int} (g : Own w' w.heap.size 36 2 v' (C'.map iiC)) (hN : Few.Near 4 (ones l') L' C') (h : Bx w0 w X Y v1 v2 a c v4 L C v5 l1 l2 l3 l4 l5) (hb : Below w.heap.size w w') (hX : w0.heap.size ≤ Y) : Bx w0 (((w'.setCell ⟨Y, 8, none⟩ (.int .i64 4)).setCell ⟨Y, 9, none⟩ (.int .i64 L')).setCell ⟨Y, 10, none⟩ v') X Y v1 v2 a c v4 L' C' v' l1 l2 l3 l4 l' := by
  have k := h.below hb
  have K := k.box
  exact ⟨by
        have hne : X ≠ Y := by have := h.lt; omega
        rw [Below.heap_setCell _ _ _ _ hne, Below.heap_setCell _ _ _ _ hne, Below.heap_setCell _ _ _ _ hne]
        exact k.res,
    c_set K (.int .i64 4) (.int .i64 L') v', h.lt, (own_off (own_off (own_off k.b k.nb 8 _) k.nb 9 _) k.nb 10 _), k.nb, (own_off (own_off (own_off k.f k.nf 8 _) k.nf 9 _) k.nf 10 _), k.nf, (((k.t.set (fun _ hx => hx.2) 8 _).set (fun _ hx => hx.2) 9 _).set (fun _ hx => hx.2) 10 _), (own_off (own_off (own_off k.r k.nr 8 _) k.nr 9 _) k.nr 10 _), k.nr, (own_off (own_off (own_off (g.base_le (show X + 1 ≤ w.heap.size by have := h.size; have := h.lt; omega)) (own_ne g h.size) 8 _) (own_ne g h.size) 9 _) (own_ne g h.size) 10 _), (own_ne g h.size), hN, (((k.out.setCell (p := ⟨Y, 8, none⟩) hX _).setCell (p := ⟨Y, 9, none⟩) hX _).setCell (p := ⟨Y, 10, none⟩) hX _)⟩
theorem own_slice {w : World} {base : Nat} {e : TypeId} {k : Nat} {v : Value} {R : List (List Value)} (h : Own w base e k v R) : ∃ (p : Option Addr) (n c : Nat), v = .slice p n c := by
  rcases h.own.2 with ⟨rfl, _⟩ | ⟨b, cap, cur, rfl, _⟩
  · exact ⟨_, _, _, rfl⟩
  · exact ⟨_, _, _, rfl⟩
theorem Bx.start {w0 w : World} {X : Nat} {v1 v2 : Value} {a : Option Addr} {c : Nat} {v4 : Value} {L : Int} {C : List (Int × Int)} {v5 : Value} {l : List Int} (hres : w.heap[X]? = some (.cells #[.int .i64 0, .slice none 0 0, .int .i64 0, .int .i64 0, .slice none 0 0, .int .i64 0, .slice none 0 0, .slice none 0 0, .int .i64 0, .int .i64 0, .slice none 0 0] 71 (0, 0))) (h : Hold w (X + 1) v1 v2 a c v4 L C v5 l) (ho : Below w0.heap.size w0 w) :
    Bx w0 (w.alloc (.cells #[.int .i64 5, v1, .int .i64 100, .int .i64 3, v2, .int .i64 7, .slice a 2 c, v4, .int .i64 4, .int .i64 L, v5] 71)) X w.heap.size v1 v2 a c v4 L C v5 l l l l l := by
  have k : Below w.heap.size w (w.alloc (.cells #[.int .i64 5, v1, .int .i64 100, .int .i64 3, v2, .int .i64 7, .slice a 2 c, v4, .int .i64 4, .int .i64 L, v5] 71)) := (Below.refl _ _).alloc (Nat.le_refl _) _
  have own : ∀ {e : TypeId} {j : Nat} {v : Value} {R : List (List Value)}, Own w (X + 1) e j v R → v.ownBlock ≠ some w.heap.size := fun g hg => by have := (own_blk g _ hg).2; omega
  exact ⟨kept_blk k hres, (MapKept.heap_alloc w _).1, (Array.getElem?_eq_some_iff.1 hres).1, h.b.below k, own h.b, h.f.below k, own h.f, (h.t.size.weak (fun x hx => ⟨hx.1, by omega⟩)).below k, h.r.below k, own h.r, h.c.below k, own h.c, h.near, below_on ho k⟩
theorem Bx.finish {w0 w : World} {X Y : Nat} {v1 v2 : Value} {a : Option Addr} {c : Nat} {v4 : Value} {L : Int} {C : List (Int × Int)} {v5 : Value} {l : List Int} (h : Bx w0 w X Y v1 v2 a c v4 L C v5 l l l l l) (hX : w0.heap.size ≤ X) :
    Hold (((((((((((w.setCell ⟨X, 0, none⟩ (.int .i64 5)).setCell ⟨X, 1, none⟩ v1).setCell ⟨X, 2, none⟩ (.int .i64 100)).setCell ⟨X, 3, none⟩ (.int .i64 3)).setCell ⟨X, 4, none⟩ v2).setCell ⟨X, 5, none⟩ (.int .i64 7)).setCell ⟨X, 6, none⟩ (.slice a 2 c)).setCell ⟨X, 7, none⟩ v4).setCell ⟨X, 8, none⟩ (.int .i64 4)).setCell ⟨X, 9, none⟩ (.int .i64 L)).setCell ⟨X, 10, none⟩ v5) w0.heap.size v1 v2 a c v4 L C v5 l ∧ Below w0.heap.size w0 (((((((((((w.setCell ⟨X, 0, none⟩ (.int .i64 5)).setCell ⟨X, 1, none⟩ v1).setCell ⟨X, 2, none⟩ (.int .i64 100)).setCell ⟨X, 3, none⟩ (.int .i64 3)).setCell ⟨X, 4, none⟩ v2).setCell ⟨X, 5, none⟩ (.int .i64 7)).setCell ⟨X, 6, none⟩ (.slice a 2 c)).setCell ⟨X, 7, none⟩ v4).setCell ⟨X, 8, none⟩ (.int .i64 4)).setCell ⟨X, 9, none⟩ (.int .i64 L)).setCell ⟨X, 10, none⟩ v5) := by
  refine ⟨Hold.base_le ⟨all_own (b := X) h.b (Nat.lt_succ_self X) (.int .i64 5) v1 (.int .i64 100) (.int .i64 3) v2 (.int .i64 7) (.slice a 2 c) v4 (.int .i64 4) (.int .i64 L) v5, all_own (b := X) h.f (Nat.lt_succ_self X) (.int .i64 5) v1 (.int .i64 100) (.int .i64 3) v2 (.int .i64 7) (.slice a 2 c) v4 (.int .i64 4) (.int .i64 L) v5, all_tt (b := X) (h.t.weak (fun x hx => hx.1)) (fun x hx => by omega) (.int .i64 5) v1 (.int .i64 100) (.int .i64 3) v2 (.int .i64 7) (.slice a 2 c) v4 (.int .i64 4) (.int .i64 L) v5, all_own (b := X) h.r (Nat.lt_succ_self X) (.int .i64 5) v1 (.int .i64 100) (.int .i64 3) v2 (.int .i64 7) (.slice a 2 c) v4 (.int .i64 4) (.int .i64 L) v5, all_own (b := X) h.c (Nat.lt_succ_self X) (.int .i64 5) v1 (.int .i64 100) (.int .i64 3) v2 (.int .i64 7) (.slice a 2 c) v4 (.int .i64 4) (.int .i64 L) v5, h.near⟩ (by omega), all_below h.out hX (.int .i64 5) v1 (.int .i64 100) (.int .i64 3) v2 (.int .i64 7) (.slice a 2 c) v4 (.int .i64 4) (.int .i64 L) v5⟩
end Five
end Go.Proofs.Ytffgoekdjcempab
