/- The contract of culref.Fewer. -/
import Derived.Test.YtffgoekdjcempaaGreatFewerMath
import Derived.Test.YtffgoekdjcempaaGreatFewSlice
import Derived.Test.YtffgoekdjcempaaGreatSrtSort
import Derived.Test.YtffgoekdjcempaaGreatRefFew
import Derived.Test.YtffgoekdjcempaaGreatRefCounts
import Derived.Test.YtffgoekdjcempaaGreatOwnTwo
import Derived.RegionTactic
import Derived.BigRegion
import Derived.Deep.DeepCutAuto
import Derived.Deep.LoopGhost
import Derived.Maps.RangeWalk
namespace Go.Proofs.YtffgoekdjcempaaGreat
open Go.ChangeShapes Go.WideShapes Go.ChangeAt Go.RowKit
open Few

namespace Few
/-- the keys that are still to come -/
def ToCome (left : Lit → Bool) (ks O : List Int) : Prop := ∀ z : Int, left (.int .i64 z) = (decide (z ∈ ks) && !decide (z ∈ O))
theorem toCome_next {left : Lit → Bool} {ks O : List Int} (h : ToCome left ks O) (x : Int) : ToCome (fun z => left z && !z.sameKey (.int .i64 x)) ks (O ++ [x]) := by
  intro z
  have h1 := h z
  simp only [h1]
  by_cases e : z = x
  · subst e; simp [Lit.sameKey]
  · simp [Lit.sameKey, e]
theorem kinds_le : ∀ l : List Int, kinds l ≤ l.length
  | [] => Nat.le_refl _
  | x :: l => by
    have := kinds_le l
    rw [kinds, List.length_cons]
    split <;> omega
/-- the world of a call that gathers: the result's box, the sketch's, the list's, the two lists -/
structure Gath (w W : World) (N : Nat) (K L : Int) (v u : Value) (A : List (Int × Int)) (S : List Int) : Prop where
  box0 : W.heap[N]? = some (.cells #[.int .i64 0, .int .i64 0, .slice none 0 0] 24 (0, 0))
  box1 : W.heap[N + 1]? = some (.cells #[.int .i64 K, .int .i64 L, .slice none 0 0] 24 (0, 0))
  box2 : W.heap[N + 1 + 1]? = some (.cells #[v] 22 (0, 0))
  own1 : Own W (N + 4) 37 2 v (A.map iiC)
  own2 : Own W (N + 4) 3 1 u (S.map iC)
  ap : Apart v u
  size : N + 4 ≤ W.heap.size
  below : Below N w W
variable {w W W' : World} {N : Nat} {K L : Int} {v u : Value} {A A' : List (Int × Int)} {S S' : List Int}
theorem own_off {b : Nat} {e : TypeId} {k : Nat} {R : List (List Value)} {r : Nat} (h : Own W b e k v R) (hr : r < b) : v.ownBlock = none ∨ v.ownBlock ≠ some r := by
  cases e1 : v.ownBlock with
  | none => exact Or.inl rfl
  | some g => exact Or.inr (fun e2 => by have := (h.own.lt g e1).1; injection e2 with e2; omega)
theorem own_ge {b : Nat} {e : TypeId} {k : Nat} {R : List (List Value)} (h : Own W b e k v R) : ∀ g, v.ownBlock = some g → b ≤ g := fun g hg => (h.own.lt g hg).1
/-- other blocks grow -/
theorem Gath.grown (h : Gath w W N K L v u A S) {row : Option Nat} (hg : W.grownBy W' row) (h1 : ∀ g, row = some g → N + 3 ≤ g) (h2 : v.ownBlock = none ∨ v.ownBlock ≠ row) (h3 : u.ownBlock = none ∨ u.ownBlock ≠ row) : Gath w W' N K L v u A S := by
  have hs := h.size
  have hk : ∀ k, k < N + 3 → W'.heap[k]? = W.heap[k]? := fun k hk => hg.block k (by omega) (fun e => by have := h1 k e.symm; omega)
  exact ⟨(hk _ (by omega)).trans h.box0, (hk _ (by omega)).trans h.box1, (hk _ (by omega)).trans h.box2, h.own1.keptBy hg h2, h.own2.keptBy hg h3, h.ap, Nat.le_trans h.size hg.size, h.below.grown hg (Nat.le_trans (by omega) hs) (fun q hq => Nat.le_trans (by omega) (h1 q hq))⟩
/-- the counters are sorted -/
theorem Gath.first (h : Gath w W N K L v u A S) (hO : Own W' (N + 4) 37 2 v (A'.map iiC)) (hg : W.grownBy W' v.ownBlock) : Gath w W' N K L v u A' S := by
  have hs := h.size
  have hge := own_ge h.own1
  have hk : ∀ k, k < N + 3 → W'.heap[k]? = W.heap[k]? := fun k hk => hg.block k (by omega) (fun e => by have := hge k e.symm; omega)
  exact ⟨(hk _ (by omega)).trans h.box0, (hk _ (by omega)).trans h.box1, (hk _ (by omega)).trans h.box2, hO, h.own2.keptBy hg h.ap.symm.or, h.ap, Nat.le_trans h.size hg.size, h.below.grown hg (Nat.le_trans (by omega) hs) (fun q hq => Nat.le_trans (by omega) (hge q hq))⟩
/-- the sizes are sorted -/
theorem Gath.second (h : Gath w W N K L v u A S) (hO : Own W' (N + 4) 3 1 u (S'.map iC)) (hg : W.grownBy W' u.ownBlock) : Gath w W' N K L v u A S' := by
  have hs := h.size
  have hge := own_ge h.own2
  have hk : ∀ k, k < N + 3 → W'.heap[k]? = W.heap[k]? := fun k hk => hg.block k (by omega) (fun e => by have := hge k e.symm; omega)
  exact ⟨(hk _ (by omega)).trans h.box0, (hk _ (by omega)).trans h.box1, (hk _ (by omega)).trans h.box2, h.own1.keptBy hg h.ap.or, hO, h.ap, Nat.le_trans h.size hg.size, h.below.grown hg (Nat.le_trans (by omega) hs) (fun q hq => Nat.le_trans (by omega) (hge q hq))⟩
theorem Gath.alloc (h : Gath w W N K L v u A S) (o : Obj) : Gath w (W.alloc o) N K L v u A S := by
  have hb : Below W.heap.size W (W.alloc o) := (Below.refl _ _).alloc (Nat.le_refl _) _
  have hs := h.size
  exact ⟨(hb.block _ (by omega)).trans h.box0, (hb.block _ (by omega)).trans h.box1, (hb.block _ (by omega)).trans h.box2, h.own1.below hb, h.own2.below hb, h.ap, Nat.le_trans h.size hb.size, h.below.trans (hb.mono (by omega))⟩
/-- both lists grow, and the list's box is turned -/
theorem Gath.turned {v' u' : Value} (h : Gath w W N K L v u A S) (h1 : Own W' (N + 4) 37 2 v' (A'.map iiC)) (h2 : Own W' (N + 4) 3 1 u' (S'.map iC)) (ha : Apart v' u') (hk : ∀ k, k < N + 3 → W'.heap[k]? = W.heap[k]?) (hb : Below N w W') (hs : W.heap.size ≤ W'.heap.size) :
    Gath w (W'.setCell ⟨N + 1 + 1, 0, none⟩ v') N K L v' u' A' S' := by
  have hs0 := h.size
  have hx : ∀ k, k < N + 3 → k ≠ N + 1 + 1 → (W'.setCell ⟨N + 1 + 1, 0, none⟩ v').heap[k]? = W.heap[k]? := fun k hk1 hne => (Below.heap_setCell W' ⟨N + 1 + 1, 0, none⟩ v' k hne).trans (hk k hk1)
  refine ⟨(hx _ (by omega) (by omega)).trans h.box0, (hx _ (by omega) (by omega)).trans h.box1, ?_, h1.setCell (a := ⟨N + 1 + 1, 0, none⟩) (show N + 1 + 1 < N + 4 by omega) _, h2.setCell (a := ⟨N + 1 + 1, 0, none⟩) (show N + 1 + 1 < N + 4 by omega) _, ha, ?_, hb.setCell (p := ⟨N + 1 + 1, 0, none⟩) (show N ≤ N + 1 + 1 by omega) _⟩
  · have := heap_setCell_same W' (N + 1 + 1) 0 _ _ v' ((hk _ (by omega)).trans h.box2)
    rw [this]; rfl
  · simp [World.setCell]; omega
theorem Gath.drew (h : Gath w W N K L v u A S) : Gath w W.drew N K L v u A S :=
  ⟨h.box0, h.box1, h.box2, h.own1.drew, h.own2.drew, h.ap, h.size, ⟨h.below.os, h.below.tape, h.below.output, h.below.size, h.below.block⟩⟩
/-- what is lost grows -/
theorem Gath.lost (h : Gath w W N K L v u A S) (x : Int) : Gath w (W.setCell ⟨N + 1, 1, none⟩ (.int .i64 x)) N K x v u A S := by
  have hx : ∀ k, k ≠ N + 1 → (W.setCell ⟨N + 1, 1, none⟩ (.int .i64 x)).heap[k]? = W.heap[k]? := fun k hne => Below.heap_setCell W ⟨N + 1, 1, none⟩ _ k hne
  refine ⟨(hx _ (by omega)).trans h.box0, ?_, (hx _ (by omega)).trans h.box2, h.own1.setCell (a := ⟨N + 1, 1, none⟩) (show N + 1 < N + 4 by omega) _, h.own2.setCell (a := ⟨N + 1, 1, none⟩) (show N + 1 < N + 4 by omega) _, h.ap, ?_, h.below.setCell (p := ⟨N + 1, 1, none⟩) (show N ≤ N + 1 by omega) _⟩
  · have := heap_setCell_same W (N + 1) 1 _ _ (.int .i64 x) h.box1
    rw [this]; rfl
  · simp [World.setCell]; exact h.size
/-- a counter is cut -/
theorem Gath.cutAt {g n cp i : Nat} {x m : Int} (h : Gath w W N K L (.slice (some ⟨g, 0, none⟩) n cp) u A S) (hi : A[i]? = some (x, m)) (y : Int) : Gath w (W.setCell ⟨g, i * 2 + 1, none⟩ (.int .i64 y)) N K L (.slice (some ⟨g, 0, none⟩) n cp) u (A.set i (x, y)) S := by
  have hg := own_ge h.own1 g rfl
  have hx : ∀ k, k < N + 4 → (W.setCell ⟨g, i * 2 + 1, none⟩ (.int .i64 y)).heap[k]? = W.heap[k]? := fun k hk => Below.heap_setCell W ⟨g, i * 2 + 1, none⟩ _ k (by show k ≠ g; omega)
  have h1 := h.own1.set_ (i := i) (map_get hi) (j := 1) (by decide) (.int .i64 y)
  have e : ((A.map iiC).set i ((iiC (x, m)).set 1 (.int .i64 y))) = (A.set i (x, y)).map iiC := by rw [List.map_set]; rfl
  rw [e] at h1
  refine ⟨(hx _ (by omega)).trans h.box0, (hx _ (by omega)).trans h.box1, (hx _ (by omega)).trans h.box2, h1, h.own2.keptBy (grown_cell W ⟨g, i * 2 + 1, none⟩ _) h.ap.symm.or, h.ap, ?_, h.below.setCell (p := ⟨g, i * 2 + 1, none⟩) (show N ≤ g by omega) _⟩
  simp [World.setCell]; exact h.size
/-- the world of a call that has gathered -/
structure Fin (w W : World) (N : Nat) (K L : Int) (v : Value) (C : List (Int × Int)) : Prop where
  box0 : W.heap[N]? = some (.cells #[.int .i64 0, .int .i64 0, .slice none 0 0] 24 (0, 0))
  box1 : W.heap[N + 1]? = some (.cells #[.int .i64 K, .int .i64 L, .slice none 0 0] 24 (0, 0))
  box2 : W.heap[N + 1 + 1]? = some (.cells #[v] 22 (0, 0))
  own1 : Own W (N + 4) 37 2 v (C.map iiC)
  size : N + 4 ≤ W.heap.size
  below : Below N w W
theorem Gath.fin (h : Gath w W N K L v u A S) : Fin w W N K L v A := ⟨h.box0, h.box1, h.box2, h.own1, h.size, h.below⟩
theorem Fin.turned {v' : Value} {C : List (Int × Int)} (h : Fin w W N K L v A) (hb : Below (N + 4) W W') (hO : Own W' (N + 4) 37 2 v' (C.map iiC)) : Fin w (W'.setCell ⟨N + 1 + 1, 0, none⟩ v') N K L v' C := by
  have hx : ∀ k, k < N + 4 → k ≠ N + 1 + 1 → (W'.setCell ⟨N + 1 + 1, 0, none⟩ v').heap[k]? = W.heap[k]? := fun k hk hne => (Below.heap_setCell W' ⟨N + 1 + 1, 0, none⟩ v' k hne).trans (hb.block k hk)
  refine ⟨(hx _ (by omega) (by omega)).trans h.box0, (hx _ (by omega) (by omega)).trans h.box1, ?_, hO.setCell (a := ⟨N + 1 + 1, 0, none⟩) (show N + 1 + 1 < N + 4 by omega) _, ?_, (h.below.trans (hb.mono (by omega))).setCell (p := ⟨N + 1 + 1, 0, none⟩) (show N ≤ N + 1 + 1 by omega) _⟩
  · have := heap_setCell_same W' (N + 1 + 1) 0 _ _ v' ((hb.block _ (by omega)).trans h.box2)
    rw [this]; rfl
  · have := h.size; have := hb.size; simp [World.setCell]; omega
end Few

set_option maxRecDepth 100000 in
set_option maxHeartbeats 8000000 in
theorem fewer_any (K : Nat) (L : Int) (mb : Nat) (cs D : List (Int × Int)) (w : World) (hM : OwnsSums Tryz.prog 3 3 w mb cs) (hcs : ∀ p ∈ cs, 1 ≤ p.2) (hcl : cs.length ≤ 49)
    (hD : D.Pairwise (fun a b => a.1 < b.1)) (hD1 : ∀ d ∈ D, 1 ≤ d.2 ∧ d.2 ≤ 1000000000000000) (hoft : ∀ x, oft x D = oft x cs) (k1 : 1 ≤ K) (k2 : K ≤ 16) (l1 : 0 ≤ L) (l2 : L ≤ 1000000000000000) :
    Calls Tryz.prog 11 #[.int .i64 K, .int .i64 L, .map (some mb)] w fun e w' => ∃ (Kr Lr : Int) (Cr : List (Int × Int)) (v : Value),
      e = .returned (.tuple #[.agg #[.int .i64 Kr, .int .i64 Lr, v], .int .i64 (setE (L + exC D K) (lowC (exC D K) D))]) ∧ Out (setE (L + exC D K) (lowC (exC D K) D)) K (L + exC D K) (lowC (exC D K) D) Kr Lr Cr ∧ Own w' w.heap.size 37 2 v (Cr.map iiC) ∧ Below w.heap.size w w' := by
  have hmb := hM.lt
  have hb0 : Below w.heap.size w (((w.alloc (.cells #[.int .i64 0, .int .i64 0, .slice none 0 0] 24)).alloc (.cells #[.int .i64 K, .int .i64 L, .slice none 0 0] 24)).alloc (.cells #[.slice none 0 0] 22)) :=
    (((Below.refl _ _).alloc (Nat.le_refl _) _).alloc (by simp) _).alloc (by simp; omega) _
  have e0 : (((w.alloc (.cells #[.int .i64 0, .int .i64 0, .slice none 0 0] 24)).alloc (.cells #[.int .i64 K, .int .i64 L, .slice none 0 0] 24)).alloc (.cells #[.slice none 0 0] 22)).heap[w.heap.size]? = some (.cells #[.int .i64 0, .int .i64 0, .slice none 0 0] 24 (0, 0)) := by
    rw [Below.heap_alloc _ _ _ (by simp; omega), Below.heap_alloc _ _ _ (by simp)]
    exact (MapKept.heap_alloc w _).1
  have e1 : (((w.alloc (.cells #[.int .i64 0, .int .i64 0, .slice none 0 0] 24)).alloc (.cells #[.int .i64 K, .int .i64 L, .slice none 0 0] 24)).alloc (.cells #[.slice none 0 0] 22)).heap[w.heap.size + 1]? = some (.cells #[.int .i64 K, .int .i64 L, .slice none 0 0] 24 (0, 0)) := by
    rw [Below.heap_alloc _ _ _ (by simp)]
    have := (MapKept.heap_alloc (w.alloc (.cells #[.int .i64 0, .int .i64 0, .slice none 0 0] 24)) (.cells #[.int .i64 K, .int .i64 L, .slice none 0 0] 24)).1
    simpa using this
  have e2 : (((w.alloc (.cells #[.int .i64 0, .int .i64 0, .slice none 0 0] 24)).alloc (.cells #[.int .i64 K, .int .i64 L, .slice none 0 0] 24)).alloc (.cells #[.slice none 0 0] 22)).heap[w.heap.size + 1 + 1]? = some (.cells #[.slice none 0 0] 22 (0, 0)) := by
    have := (MapKept.heap_alloc ((w.alloc (.cells #[.int .i64 0, .int .i64 0, .slice none 0 0] 24)).alloc (.cells #[.int .i64 K, .int .i64 L, .slice none 0 0] 24)) (.cells #[.slice none 0 0] 22)).1
    simpa using this
  have es : (((w.alloc (.cells #[.int .i64 0, .int .i64 0, .slice none 0 0] 24)).alloc (.cells #[.int .i64 K, .int .i64 L, .slice none 0 0] 24)).alloc (.cells #[.slice none 0 0] 22)).heap.size = w.heap.size + 3 := by simp
  have hM0 := hM.below hb0
  obtain ⟨W0, hW0⟩ : ∃ W0, (((w.alloc (.cells #[.int .i64 0, .int .i64 0, .slice none 0 0] 24)).alloc (.cells #[.int .i64 K, .int .i64 L, .slice none 0 0] 24)).alloc (.cells #[.slice none 0 0] 22)) = W0 := ⟨_, rfl⟩
  rw [hW0] at hb0 e0 e1 e2 es hM0
  have HW0 := Lib.hid hW0
  obtain ⟨DD, hD1', hD2', hD3', hD4'⟩ := hM0
  have HM := Lib.hid hD1'
  have HDA := Lib.hid (And.intro hD3' hD4')
  have hkn : Maps.size DD ≤ 49 := by
    have := kinds_le (cs.map (fun p => p.1))
    rw [hD2']
    rw [List.length_map] at this
    omega
  obtain ⟨ks, hks⟩ : ∃ ks, cs.map (fun p => p.1) = ks := ⟨_, rfl⟩
  rw [hks] at HDA
  have HKS := Lib.hid hks
  have HCS := Lib.hid hcs
  have HD := Lib.hid (And.intro hD (And.intro hD1 hoft))
  have HB0 := Lib.hid hb0
  have HE := Lib.hid (And.intro e0 (And.intro e1 e2))
  have HES := Lib.hid es
  clear hD1' hD2' hD3' hD4' hM hks hcs hD hD1 hoft hb0 e0 e1 e2 es hW0
  obtain ⟨N, hN⟩ : ∃ N, w.heap.size = N := ⟨_, rfl⟩
  have HN := Lib.hid hN
  rw [hN] at HB0 HE HES hmb
  clear hN
  go_enter Tryz.func11, Tryz.ntmps11
  go_wp2_with (at_range; rw [HW0.out]; (try rw [HN.out]); refine wpList_range_own _ rfl _ 32 rfl 3 3 lawRC Tryz.underlying32 _ mb _ DD rfl HM.out ?_; intro w7 hrg7 hg7 hs7)
  try go_frame
  rw [HES.out] at hrg7
  have HG0 : Hid (Gath w w7 N K L (.slice none 0 0) (.slice none 0 0) [] []) := Lib.hid (by
    have hk : ∀ k, k < N + 3 → w7.heap[k]? = W0.heap[k]? := fun k hk => hg7.block k (by rw [HES.out]; exact hk) (fun e => by cases e)
    exact ⟨(hk _ (by omega)).trans HE.out.1, (hk _ (by omega)).trans HE.out.2.1, (hk _ (by omega)).trans HE.out.2.2, Own.nil _ _ _ _, Own.nil _ _ _ _, apart_nil _, by have := HES.out; omega, HB0.out.grown hg7 (by have := HES.out; omega) (fun q hq => by cases hq)⟩)
  have HRG := Lib.hid hrg7
  try rw [HES.out]
  generalize Maps.size DD = BN at *
  clear hrg7 hg7 hs7 HM HB0 HE HES
  go_loopg [10] BN (fun g u wx => ∃ (left : Lit → Bool) (cnt : Nat) (A : List (Int × Int)) (v : Value), Hid (cnt ≤ g) ∧ Hid (wx.ranges Tryz.prog 3 (plainElem Tryz.prog 3) mb (N + 3) cs.length DD left cnt) ∧ Hid (ToCome left ks (A.map (fun p => p.1))) ∧ Hid ((A.map (fun p => p.1)).Nodup ∧ (∀ p ∈ A, p.1 ∈ ks ∧ p.2 = oft p.1 cs) ∧ A.length + cnt ≤ 49) ∧ Hid (Gath w wx N K L v u A (nums A)))
  case atStart => exact ⟨_, _, [], _, Lib.hid (Nat.le_refl _), HRG, Lib.hid (fun z => by rw [HDA.out.2 z]; simp), Lib.hid ⟨List.nodup_nil, by simp, by simpa using hkn⟩, HG0⟩
  case round =>
    clear HRG HG0
    obtain ⟨left, cnt, A, v, HG, HR, HC, HNA, HGA⟩ := hrel
    go_wp2_with (at_next; refine wpList_next_ranges_ii _ rfl _ rfl 3 3 .i64 .i64 lawRC Tryz.underlying3 Tryz.underlying3 mb (N + 3) _ DD left cnt rfl HR.out ?_ ?_)
    · intro hc0 hl0
      have hAm : ∀ z, z ∈ A.map (fun p => p.1) ↔ z ∈ cs.map (fun p => p.1) := fun z => by
        rw [HKS.out]
        refine ⟨fun hz => ?_, fun hz => ?_⟩
        · obtain ⟨p, hp, rfl⟩ := List.mem_map.1 hz
          exact (HNA.out.2.1 p hp).1
        · have h1 := HC.out z
          rw [hl0] at h1
          simpa [hz] using h1.symm
      have hAl : A.length ≤ 49 := by have := HNA.out.2.2; omega
      have c2 : wr.cell? ⟨N + 1 + 1, 0, none⟩ = some v := cell_blk HGA.out.box2 rfl
      have C1 := Lib.hid (sort_keys HGA.out.own1 c2 (by omega) (by omega))
      have HAM := Lib.hid hAm
      clear hAm hc0 hl0 HR HC
      go_wp2_with fail
      refine C1.out.mono ?_
      rintro e w1 ⟨rfl, A', hp1, ho1, hO1, hg1⟩
      obtain rfl : A' = D := same_all HNA.out.1 HAM.out (fun p hp => (HNA.out.2.1 p hp).2) HCS.out hp1 ho1 HD.out.1 (fun d hd => (HD.out.2.1 d hd).1) HD.out.2.2
      have HG1 := Lib.hid (HGA.out.first hO1 hg1)
      have hDl : A'.length ≤ 49 := by rw [hp1.length_eq]; exact hAl
      have HP1 := Lib.hid (hp1.map (fun c => c.2))
      clear hp1 ho1 hO1 hg1 C1 c2 HGA HNA HAM
      have C2 := Lib.hid (Rev.reverse_any 59 u10 w1)
      go_wp2_with fail
      refine C2.out.mono ?_
      rintro e w2 ⟨rfl, hw2⟩
      have hpb : w2.heap[w1.heap.size]? = some (.cells #[.iface 59 u10] 87 (0, 0)) := by rw [hw2]; exact (MapKept.heap_alloc w1 _).1
      have HG2 : Hid (Gath w w2 N K L v u10 A' (nums A)) := Lib.hid (by rw [hw2]; exact HG1.out.alloc _)
      have hul : u10.ownBlock ≠ some w1.heap.size := fun e => by have := (HG1.out.own2.own.lt _ e).2; omega
      have hAl2 : (nums A).length ≤ 49 := by rw [nums_len]; exact hAl
      have C3 := Lib.hid (Rev.sort_down HG2.out.own2 hAl2 hpb hul)
      clear hw2 hpb hul hAl2 C2 HG1
      go_wp2_with fail
      refine C3.out.mono ?_
      rintro e w3 ⟨rfl, S, hpS, hoS, hOS, hgS⟩
      have HG3 := Lib.hid (HG2.out.second hOS hgS)
      have HPS := Lib.hid (show S.Perm (nums A') from hpS.trans HP1.out.symm)
      have HOS := Lib.hid hoS
      have hSl : S.length = A'.length := by rw [hpS.length_eq, nums_len]; have := HP1.out.length_eq; simpa using this.symm
      clear hpS hoS hOS hgS C3 HG2 HP1
      obtain ⟨va, vc, rfl, _⟩ := HG3.out.own1.tab
      rw [List.length_map] at HG3 ⊢
      obtain ⟨n, hn⟩ : ∃ n, A'.length = n := ⟨_, rfl⟩
      rw [hn] at HG3 hSl hDl ⊢
      have HNN := Lib.hid hn
      have c2 : w3.cell? ⟨N + 1 + 1, 0, none⟩ = some (.slice va n vc) := cell_blk HG3.out.box2 rfl
      clear hn
      obtain ⟨e, he⟩ : ∃ e, exC A' K = e := ⟨_, rfl⟩
      have HEX := Lib.hid he
      obtain ⟨x0, x1, x2, x3⟩ := exC_all (C := A') (k := K) (fun d hd => (HD.out.2.1 d hd).1)
      rw [he] at x0 x1 x2 x3
      have HX2 := Lib.hid x2
      have HX3 := Lib.hid x3
      clear x1 x2 x3 he
      go_upto_if 45 with fail
      go_cut [] (fun wx => ∃ (b : Option Addr) (m c : Nat), Hid (Fin w wx N K (L + e) (.slice b m c) (lowC e A')))
      case first =>
        by_cases hlt : K < n
        · have h1 : (K : Int) < (n : Int) := by omega
          obtain ⟨gs, cS, rfl⟩ : ∃ g cap, u10 = .slice (some ⟨g, 0, none⟩) n cap := by
            rcases HG3.out.own2.own.2 with ⟨_, h0'⟩ | ⟨g', cap', cur, h0, _⟩
            · rw [List.length_map] at h0'; omega
            · rw [List.length_map, hSl] at h0
              exact ⟨g', cap', h0⟩
          obtain ⟨ga, rfl⟩ : ∃ g, va = some ⟨g, 0, none⟩ := by
            rcases HG3.out.own1.own.2 with ⟨h0, h0'⟩ | ⟨g', cap', cur, h0, _⟩
            · rw [List.length_map, HNN.out] at h0'; omega
            · simp only [Value.slice.injEq] at h0
              exact ⟨g', h0.1⟩
          have hget : S[K]? = some e := by rw [← HEX.out]; exact down_at HPS.out HOS.out (by rw [HNN.out]; exact hlt)
          have hmem : e ∈ nums A' := HPS.out.mem_iff.1 (List.mem_of_getElem? hget)
          have x4 : e ≤ 1000000000000000 := by
            obtain ⟨d, hd, rfl⟩ := List.mem_map.1 hmem
            exact (HD.out.2.1 d hd).2
          obtain ⟨s0, _⟩ := HG3.out.own2.at1 (map_get hget)
          have s1 : w3.cell? ⟨N + 1, 1, none⟩ = some (.int .i64 L) := cell_blk HG3.out.box1 rfl
          have s2 : w3.frozen? ⟨N + 1, 1, none⟩ = false := frozen_blk HG3.out.box1
          have HGT := Lib.hid hget
          clear hmem hget
          go_wp2_with fail
          go_region
          have HG5 : Hid (Gath w (w3.setCell ⟨N + 1, 1, none⟩ (.int .i64 (L + e))).drew N K (L + e) (.slice (some ⟨ga, 0, none⟩) n vc) (.slice (some ⟨gs, 0, none⟩) n cS) (cutTo e A' 0) S) := Lib.hid (by rw [cutTo_zero]; exact (HG3.out.lost (L + e)).drew)
          generalize (w3.setCell ⟨N + 1, 1, none⟩ (.int .i64 (L + e))).drew = w5 at *
          clear s0 s1 s2 c2 HG3
          have c2 : w5.cell? ⟨N + 1 + 1, 0, none⟩ = some (.slice (some ⟨ga, 0, none⟩) n vc) := cell_blk HG5.out.box2 rfl
          go_wp2_with fail
          clear c2
          try simp only [decide_eq_true hlt]
          go_loopg [56] n (fun g i wx => ∃ t : Nat, t + g = n ∧ i = .int .i64 t ∧ Hid (Gath w wx N K (L + e) (.slice (some ⟨ga, 0, none⟩) n vc) (.slice (some ⟨gs, 0, none⟩) n cS) (cutTo e A' t) S))
          case atStart => exact ⟨0, by omega, rfl, HG5⟩
          case round =>
            clear HG5
            obtain ⟨t, ht, rfl, HG6⟩ := hrel
            have HJ := Lib.hid ht
            have htn : t ≤ n := by omega
            clear ht
            have c2 : wr.cell? ⟨N + 1 + 1, 0, none⟩ = some (.slice (some ⟨ga, 0, none⟩) n vc) := cell_blk HG6.out.box2 rfl
            by_cases hlt2 : t < n
            · obtain ⟨⟨kx, m⟩, hx⟩ : ∃ x, A'[t]? = some x := ⟨_, List.getElem?_eq_getElem (by rw [HNN.out]; exact hlt2)⟩
              have hq := cutTo_get (e := e) hx
              obtain ⟨s3, s4, _⟩ := HG6.out.own1.at_ (i := t) (map_get hq) (j := 1) rfl
              obtain ⟨s0, _⟩ := HG6.out.own2.at1 (map_get HGT.out)
              have hm := HD.out.2.1 _ (List.mem_of_getElem? hx)
              simp only at hm
              obtain ⟨m1, m2⟩ := hm
              have HGC := Lib.hid (HG6.out.cutAt hq (m - e)).drew
              rw [cutTo_set hx] at HGC
              clear hx hq HG6
              go_wp2_with fail
              go_region
              go_wp2_with fail
              go_roundg (n - (t + 1))
              case measure => have := HJ.out; omega
              case rel => exact ⟨t + 1, by omega, by go_num, HGC⟩
            · obtain rfl : t = n := by omega
              have hO := HG6.out.own1
              rw [cutTo_all HNN.out] at hO
              have C9 := deleteCtrs_own hO HG6.out.size
              rw [low_of] at C9
              replace C9 := Lib.hid C9
              clear hO
              go_wp2_with fail
              refine C9.out.mono ?_
              rintro e9 w9 ⟨v9, rfl, hO9, hb9⟩
              obtain ⟨a9, p9, rfl, _⟩ := hO9.tab
              generalize ((lowC e A').map iiC).length = n9 at *
              have HF := Lib.hid (HG6.out.fin.turned hb9 hO9)
              have b2 := (hb9.block (N + 1 + 1) (by omega)).trans HG6.out.box2
              have d2 : w9.cell? ⟨N + 1 + 1, 0, none⟩ = some (.slice (some ⟨ga, 0, none⟩) t vc) := cell_blk b2 rfl
              have f2 : w9.frozen? ⟨N + 1 + 1, 0, none⟩ = false := frozen_blk b2
              clear hO9 hb9 b2 C9 HG6 c2
              go_wp2_with fail
              go_meet
              exact ⟨a9, n9, p9, HF⟩
        · have h1 : ¬ ((K : Int) < (n : Int)) := by omega
          go_wp2_with fail
          go_meet
          obtain rfl : e = 0 := HX3.out (by rw [HNN.out]; omega)
          refine ⟨va, n, vc, Lib.hid ?_⟩
          rw [lowC_zero (fun d hd => (HD.out.2.1 d hd).1), Int.add_zero]
          exact HG3.out.fin
      case rest =>
        obtain ⟨b, m, c, HF⟩ := hcut
        clear HG3 c2
        have c2 : wc.cell? ⟨N + 1 + 1, 0, none⟩ = some (.slice b m c) := cell_blk HF.out.box2 rfl
        obtain ⟨⟨a0, a1, a2⟩, f0, f1, f2⟩ := three_all HF.out.box1
        have e1 : (wc.setCell ⟨N + 1, 2, none⟩ (.slice b m c)).heap[N + 1]? = some (.cells #[.int .i64 K, .int .i64 (L + e), .slice b m c] 24 (0, 0)) := by
          rw [heap_setCell_same wc (N + 1) 2 _ _ (.slice b m c) HF.out.box1]; rfl
        have e0 : (wc.setCell ⟨N + 1, 2, none⟩ (.slice b m c)).heap[N]? = some (.cells #[.int .i64 0, .int .i64 0, .slice none 0 0] 24 (0, 0)) :=
          (Below.heap_setCell wc ⟨N + 1, 2, none⟩ _ N (by show N ≠ N + 1; omega)).trans HF.out.box0
        have eO := HF.out.own1.setCell (a := ⟨N + 1, 2, none⟩) (show N + 1 < N + 4 by omega) (.slice b m c)
        have eB := HF.out.below.setCell (p := ⟨N + 1, 2, none⟩) (show N ≤ N + 1 by omega) (.slice b m c)
        have hz : (lowC e A').length ≤ K := by rw [← HEX.out] at HX2 ⊢; exact HX2.out
        have hord := lowC_ord (e := e) HD.out.1
        have hnum : ∀ c ∈ lowC e A', 1 ≤ c.2 := fun c hc => by
          obtain ⟨d, hd, _, h2, h3⟩ := lowC_mem hc
          omega
        have hiff := few_set (K := K) (L := L + e) (C := lowC e A') (by omega) (by omega) (by omega) (by omega) hnum hord
        have HE0 := Lib.hid e0
        have HE1 := Lib.hid e1
        have HEB := Lib.hid eB
        have HEO := Lib.hid (eO.base_le (B := N + 1) (by omega))
        have CF := refFew_any K (L + e) b m c (lowC e A') _ (eO.tab_of)
        unfold fewV at CF
        obtain ⟨q0, q1, q2⟩ := three_cells e1
        clear hz hord hnum e0 e1 eO eB HX2 HX3
        obtain ⟨C, hC⟩ : ∃ C, lowC e A' = C := ⟨_, rfl⟩
        rw [hC] at hiff CF HEO
        have HCC := Lib.hid hC
        obtain ⟨E, hE⟩ : ∃ E, fewE K (L + e) C = E := ⟨_, rfl⟩
        rw [hE] at hiff CF
        have HIF := Lib.hid hiff
        have CF := Lib.hid CF
        clear hiff hE hC HF HD HNN
        go_wp2_with fail
        refine CF.out.mono ?_
        rintro e2 w5 ⟨rfl, hb5⟩
        have K0 := Lib.hid (kept_blk hb5 HE0.out)
        have K1 := Lib.hid (kept_blk hb5 HE1.out)
        have HO5 := Lib.hid (HEO.out.below hb5)
        have HB5 := Lib.hid (show Below N w w5 from HEB.out.trans (hb5.mono (by have := (Array.getElem?_eq_some_iff.1 HE1.out).1; omega)))
        clear hb5 CF HE0 HE1 HEO HEB a0 a1 a2 f0 f1 f2 q0 q1 q2 c2
        obtain ⟨⟨x0, x1, x2⟩, f0, f1, f2⟩ := three_all K0.out
        by_cases hE0 : E = 0
        · subst hE0
          have hS : setE (L + e) C = 0 := HIF.out.1 rfl
          obtain ⟨⟨q0, q1, q2⟩, _⟩ := three_all K1.out
          have Z9 := three_all (three_set (x' := K) (y' := L + e) (v' := .slice b m c) K0.out)
          have HBZ := Lib.hid (three_below HB5.out (Nat.le_refl _) (b := N) K (L + e) (.slice b m c))
          have HOZ := Lib.hid (three_own HO5.out (b := N) (Nat.lt_succ_self N) K (L + e) (.slice b m c))
          go_wp2_with fail
          obtain ⟨⟨z0, z1, z2⟩, _⟩ := Z9
          generalize (((w5.setCell { block := N, off := 0 } (Value.int IntKind.i64 K)).setCell { block := N, off := 1 } (Value.int IntKind.i64 (L + e))).setCell { block := N, off := 2 } (Value.slice b m c)) = w9 at *
          clear x0 x1 x2 f0 f1 f2 q0 q1 q2
          try simp only [Exit.inBlock, Exit.then]
          refine bodyPost_ret (by simp [results, Tryz.results11, go_sem, z0, z1, z2, Result.andThen]; try rfl) rfl ?_
          rw [HN.out, HEX.out, HCC.out, hS]
          exact ⟨K, L + e, C, _, rfl, Or.inl ⟨rfl, rfl, rfl, rfl⟩, HOZ.out.base_le (by omega), HBZ.out⟩
        · have t0 : (E == 0) = false := by rw [beq_eq_false_iff_ne]; exact hE0
          have hS : setE (L + e) C = 2 := setE_two0 (fun h => hE0 (HIF.out.2 h))
          have Z9 := three_all (three_set (x' := 0) (y' := 0) (v' := .slice none 0 0) K0.out)
          have HBZ := Lib.hid (three_below HB5.out (Nat.le_refl _) (b := N) 0 0 (.slice none 0 0))
          have HOZ : Hid (Own (((w5.setCell ⟨N, 0, none⟩ (.int .i64 0)).setCell ⟨N, 1, none⟩ (.int .i64 0)).setCell ⟨N, 2, none⟩ (.slice none 0 0)) N 37 2 (.slice none 0 0) ([].map iiC)) := Lib.hid (Own.nil _ _ _ _)
          go_wp2_with fail
          obtain ⟨⟨z0, z1, z2⟩, _⟩ := Z9
          generalize (((w5.setCell { block := N, off := 0 } (Value.int IntKind.i64 0)).setCell { block := N, off := 1 } (Value.int IntKind.i64 0)).setCell { block := N, off := 2 } (Value.slice none 0 0)) = w9 at *
          clear x0 x1 x2 f0 f1 f2
          try simp only [Exit.inBlock, Exit.then]
          refine bodyPost_ret (by simp [results, Tryz.results11, go_sem, z0, z1, z2, Result.andThen]; try rfl) rfl ?_
          rw [HN.out, HEX.out, HCC.out, hS]
          exact ⟨0, 0, [], _, rfl, Or.inr ⟨by decide, rfl, rfl, rfl⟩, HOZ.out, HBZ.out⟩
    · intro x c w1 cnt1 hwx hwc hlx hat hrg1 hlt1 hg1 hs1 hen
      have hc : c = oft x cs := by
        have h := hat (.lit (.int .i64 0))
        rw [HDA.out.1 x] at h
        simp only [DataW.lit.injEq, Lit.int.injEq, true_and] at h
        exact h.symm
      have hxc := HC.out x
      rw [hlx] at hxc
      have hx2 : x ∈ ks ∧ x ∉ A.map (fun p => p.1) := by simpa using hxc.symm
      have HX := Lib.hid hx2
      have HCC := Lib.hid hc
      have HC1 := Lib.hid (toCome_next HC.out x)
      have HR1 := Lib.hid hrg1
      have HL1 := Lib.hid hlt1
      have HG1 := Lib.hid (HGA.out.grown hg1 (fun g hg => by cases hg; exact Nat.le_refl _) (own_off HGA.out.own1 (by omega)) (own_off HGA.out.own2 (by omega)))
      have hAl : A.length ≤ 49 := by have := HNA.out.2.2; omega
      have c2 : w1.cell? ⟨N + 1 + 1, 0, none⟩ = some v := cell_blk HG1.out.box2 rfl
      clear hwx hwc hlx hat hrg1 hlt1 hg1 hs1 hx2 hxc hc HC HR HGA
      go_wp2_with (first
        | (at_builtin; refine wpList_append_rows_at _ rfl _ _ 22 rfl (N + 4) 37 _ 2 16 Tryz.underlying22 info_counter rfl (by decide) _ (A.map iiC) rfl (HG1.out.own1.alloc _) ⟨w1.heap.size, 0, none⟩ 1 1 [iiC (x, c)] rfl rfl (by simp [iiC]) (one_row w1 (iiC (x, c)) 37 _ rfl) (by simp [iiC, Value.oneCell']) (by rw [List.length_map]; omega) (by decide) (Nat.le_trans HG1.out.size (by simp)) ?_
           intro v6 w6 hO6 hg6 ha6
           obtain ⟨a6, cp6, hv6, _⟩ := hO6.tab
           generalize (A.map iiC ++ [iiC (x, c)]).length = n6 at hv6
           subst hv6
           have HO6 := Lib.hid hO6
           have HG6 := Lib.hid hg6
           have HU6 := Lib.hid ((HG1.out.own2.alloc (.cells (iiC (x, c)).toArray 37)).keptBy hg6 HG1.out.ap.symm.or)
           have HA6 := Lib.hid (HG1.out.ap.append (HG1.out.own2.alloc (.cells (iiC (x, c)).toArray 37)) (Nat.le_refl _) ha6)
           have HS6 : Hid (N + 4 ≤ w6.heap.size) := Lib.hid (Nat.le_trans HG1.out.size (Nat.le_trans (by simp) hg6.size))
           clear hO6 hg6 ha6)
        | (at_builtin; refine wpList_append_rows_at _ rfl _ _ 39 rfl (N + 4) 3 _ 1 8 Tryz.underlying39 info_int rfl (by decide) _ ((nums A).map iC) rfl (HU6.out.alloc _) ⟨w6.heap.size, 0, none⟩ 1 1 [iC c] rfl rfl (by simp [iC]) (one_row w6 (iC c) 3 _ rfl) (by simp [iC, Value.oneCell']) (by rw [List.length_map, nums_len]; omega) (by decide) (Nat.le_trans HS6.out (by simp)) ?_
           intro v8 w8 hO8 hg8 ha8
           have HO8 := Lib.hid hO8
           have HG8 := Lib.hid hg8
           have HV8 := Lib.hid ((HO6.out.alloc (.cells (iC c).toArray 3)).keptBy hg8 HA6.out.or)
           have HA8 := Lib.hid (HA6.out.symm.append (HO6.out.alloc (.cells (iC c).toArray 3)) (Nat.le_refl _) ha8).symm
           have hk8 : ∀ k, k < N + 3 → w8.heap[k]? = w1.heap[k]? := fun k hk => by
             have h0 := HG1.out.size
             have h1 := HS6.out
             have g1 := own_ge HG1.out.own1
             have g2 := own_ge HG1.out.own2
             rw [hg8.block k (by simp; omega) (fun e => by have := g2 k e.symm; omega), Below.heap_alloc _ _ _ (by omega), HG6.out.block k (by simp; omega) (fun e => by have := g1 k e.symm; omega), Below.heap_alloc _ _ _ (by omega)]
           have b2 := (hk8 (N + 1 + 1) (by omega)).trans HG1.out.box2
           have d2 : w8.cell? ⟨N + 1 + 1, 0, none⟩ = some v := cell_blk b2 rfl
           have f2 : w8.frozen? ⟨N + 1 + 1, 0, none⟩ = false := frozen_blk b2
           have HK8 := Lib.hid hk8
           clear hO8 hg8 ha8 hk8 b2))
      go_roundg cnt1
      case measure => have h1 := HG.out; have h2 := HL1.out; omega
      case rel =>
        have g1 := own_ge HG1.out.own1
        have g2 := own_ge HG1.out.own2
        have r6 := (HR1.out.alloc (.cells (iiC (x, c)).toArray 37)).kept HG6.out (fun e => by have := g1 _ e.symm; omega) (fun e => by have := g1 _ e.symm; omega)
        have r8 := (r6.alloc (.cells (iC c).toArray 3)).kept HG8.out (fun e => by have := g2 _ e.symm; omega) (fun e => by have := g2 _ e.symm; omega)
        have hz := HG1.out.size
        have hb6 : Below N w w6 := (HG1.out.below.alloc (by omega) (.cells (iiC (x, c)).toArray 37)).grown HG6.out (by simp; omega) (fun q hq => by have := g1 q hq; omega)
        have hb8 : Below N w w8 := (hb6.alloc (by have := HS6.out; omega) (.cells (iC c).toArray 3)).grown HG8.out (by simp; have := HS6.out; omega) (fun q hq => by have := g2 q hq; omega)
        have hs8 : w1.heap.size ≤ w8.heap.size := by have h6 := HG6.out.size; have h8 := HG8.out.size; simp at h6 h8; omega
        refine ⟨_, cnt1, A ++ [(x, c)], .slice a6 n6 cp6, Lib.hid (Nat.le_refl _), Lib.hid (r8.kept (grown_cell w8 ⟨N + 1 + 1, 0, none⟩ _) (fun e => by injection e with e; have h : mb = N + 1 + 1 := e; omega) (fun e => by injection e with e; have h : N + 3 = N + 1 + 1 := e; omega)), ?_, ?_, ?_⟩
        · have := HC1.out
          rw [List.map_append]
          exact Lib.hid this
        · refine Lib.hid ⟨?_, ?_, ?_⟩
          · rw [List.map_append, List.nodup_append]
            exact ⟨HNA.out.1, by simp, fun a ha b hb => by rw [List.mem_singleton.1 hb]; exact fun e => HX.out.2 (by rw [show x = a from e.symm]; exact ha)⟩
          · intro p hp
            rcases List.mem_append.1 hp with h | h
            · exact HNA.out.2.1 p h
            · rw [List.mem_singleton.1 h]; exact ⟨HX.out.1, HCC.out⟩
          · have h1 := HNA.out.2.2
            have h2 := HL1.out
            rw [List.length_append]
            simp only [List.length_cons, List.length_nil]
            omega
        · refine Lib.hid (HG1.out.turned ?_ ?_ HA8.out HK8.out hb8 hs8)
          · rw [List.map_append]; exact HV8.out
          · rw [show nums (A ++ [(x, c)]) = nums A ++ [c] from by simp [nums], List.map_append]; exact HO8.out
end Go.Proofs.YtffgoekdjcempaaGreat
