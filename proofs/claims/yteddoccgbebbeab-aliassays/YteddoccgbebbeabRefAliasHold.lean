/- What the document's own way to the table keeps in memory: the table in its box, its two rows, the two lists of pairs; each in blocks of its own. -/
import Derived.Test.YteddoccgbebbeabBitView
import Derived.Test.YteddoccgbebbeabOwnMore
import Derived.Deep.AppendLies
namespace Go.Proofs.Yteddoccgbebbeab
open Go.ChangeShapes Go.WideShapes Go.ChangeAt Go.RowKit

structure AL (w0 wr : World) (H X : Nat) (A : Int) (bo br vo vr vl vh : Value) (own rest : List Int) (low high : List (Int × Int)) : Prop where
  oo : Own wr (X + 1) 3 1 vo (own.map iC)
  rr : Own wr (X + 1) 3 1 vr (rest.map iC)
  ll : Vw 77 wr vl low
  hh : Vw 77 wr vh high
  box : wr.heap[X]? = some (.cells #[.int .i64 A, bo, br] 27 (0, 0))
  res : wr.heap[H]? = some (.cells #[.int .i64 0, .slice none 0 0, .slice none 0 0] 27 (0, 0))
  a1 : Apart vo vr
  a2 : Apart vo vl
  a3 : Apart vo vh
  a4 : Apart vr vl
  a5 : Apart vr vh
  a6 : Apart vl vh
  gl : ∀ g, vl.ownBlock = some g → X < g ∧ g < wr.heap.size
  gh : ∀ g, vh.ownBlock = some g → X < g ∧ g < wr.heap.size
  hx : H < X
  ho : w0.heap.size ≤ H
  bel : Below w0.heap.size w0 wr
variable {w0 wr w1 : World} {H X : Nat} {A : Int} {bo br vo vr vl vh v' : Value} {own rest : List Int} {low high R : List (Int × Int)} {p : Int × Int}
theorem AL.lX (h : AL w0 wr H X A bo br vo vr vl vh own rest low high) : X < wr.heap.size := (Array.getElem?_eq_some_iff.1 h.box).1
theorem AL.swap (h : AL w0 wr H X A bo br vo vr vl vh own rest low high) : AL w0 wr H X A bo br vr vo vl vh rest own low high :=
  ⟨h.rr, h.oo, h.ll, h.hh, h.box, h.res, h.a1.symm, h.a4, h.a5, h.a2, h.a3, h.a6, h.gl, h.gh, h.hx, h.ho, h.bel⟩
theorem AL.below (h : AL w0 wr H X A bo br vo vr vl vh own rest low high) (hb : Below wr.heap.size wr w1) : AL w0 w1 H X A bo br vo vr vl vh own rest low high := by
  have hX := h.lX
  have hH := h.hx
  exact ⟨h.oo.below hb, h.rr.below hb, h.ll.below hb, h.hh.below hb, (hb.block X hX).trans h.box, (hb.block H (by omega)).trans h.res, h.a1, h.a2, h.a3, h.a4, h.a5, h.a6,
    fun g hg => ⟨(h.gl g hg).1, Nat.lt_of_lt_of_le (h.gl g hg).2 hb.size⟩, fun g hg => ⟨(h.gh g hg).1, Nat.lt_of_lt_of_le (h.gh g hg).2 hb.size⟩, h.hx, h.ho, below_on h.bel hb⟩
theorem AL.alloc (h : AL w0 wr H X A bo br vo vr vl vh own rest low high) (o : Obj) : AL w0 (wr.alloc o) H X A bo br vo vr vl vh own rest low high := h.below ((Below.refl _ _).alloc (Nat.le_refl _) _)
theorem AL.drew (h : AL w0 wr H X A bo br vo vr vl vh own rest low high) : AL w0 wr.drew H X A bo br vo vr vl vh own rest low high := h.below (Below.refl _ _).drew
theorem apart_new {v u : Value} {n : Nat} (hv : ∀ g, v.ownBlock = some g → g < n) (hu : ∀ g, u.ownBlock = some g → n ≤ g) : Apart v u := fun g h1 h2 => by have := hv g h1; have := hu g h2; omega
/-- the list of those that want, made anew in new blocks -/
theorem AL.newLow (h : AL w0 wr H X A bo br vo vr vl vh own rest low high) (hb : Below wr.heap.size wr w1) (hO : Own w1 wr.heap.size 77 2 v' (R.map iiC)) : AL w0 w1 H X A bo br vo vr v' vh own rest R high := by
  have h1 := h.below hb
  have hX := h.lX
  have hn : ∀ g, v'.ownBlock = some g → wr.heap.size ≤ g := fun g hg => (hO.own.lt g hg).1
  exact ⟨h1.oo, h1.rr, Vw.of_own hO, h1.hh, h1.box, h1.res, h.a1, apart_new (fun g hg => (h.oo.own.lt g hg).2) hn, h.a3, apart_new (fun g hg => (h.rr.own.lt g hg).2) hn, h.a5, (apart_new (fun g hg => (h.gh g hg).2) hn).symm,
    fun g hg => ⟨by have := hn g hg; omega, (hO.own.lt g hg).2⟩, h1.gh, h.hx, h.ho, h1.bel⟩
theorem AL.newHigh (h : AL w0 wr H X A bo br vo vr vl vh own rest low high) (hb : Below wr.heap.size wr w1) (hO : Own w1 wr.heap.size 77 2 v' (R.map iiC)) : AL w0 w1 H X A bo br vo vr vl v' own rest low R := by
  have h1 := h.below hb
  have hX := h.lX
  have hn : ∀ g, v'.ownBlock = some g → wr.heap.size ≤ g := fun g hg => (hO.own.lt g hg).1
  exact ⟨h1.oo, h1.rr, h1.ll, Vw.of_own hO, h1.box, h1.res, h.a1, h.a2, apart_new (fun g hg => (h.oo.own.lt g hg).2) hn, h.a4, apart_new (fun g hg => (h.rr.own.lt g hg).2) hn, apart_new (fun g hg => (h.gl g hg).2) hn,
    h1.gl, fun g hg => ⟨by have := hn g hg; omega, (hO.own.lt g hg).2⟩, h.hx, h.ho, h1.bel⟩
theorem apart_own {v u u' : Value} (h : Apart v u) (e : u'.ownBlock = u.ownBlock) : Apart v u' := fun g h1 h2 => h g h1 (e ▸ h2)
theorem AL.tailLow {a : Option Addr} {n cap : Nat} (h : AL w0 wr H X A bo br vo vr (.slice a n cap) vh own rest (p :: low) high) : AL w0 wr H X A bo br vo vr (.slice (fromA a cap 1 2) (n - 1) (cap - 1)) vh own rest low high := by
  obtain ⟨t1, t2⟩ := h.ll.tail
  exact ⟨h.oo, h.rr, t1, h.hh, h.box, h.res, h.a1, apart_own h.a2 t2, h.a3, apart_own h.a4 t2, h.a5, (apart_own h.a6.symm t2).symm, fun g hg => h.gl g (t2 ▸ hg), h.gh, h.hx, h.ho, h.bel⟩
theorem AL.tailHigh {a : Option Addr} {n cap : Nat} (h : AL w0 wr H X A bo br vo vr vl (.slice a n cap) own rest low (p :: high)) : AL w0 wr H X A bo br vo vr vl (.slice (fromA a cap 1 2) (n - 1) (cap - 1)) own rest low high := by
  obtain ⟨t1, t2⟩ := h.hh.tail
  exact ⟨h.oo, h.rr, h.ll, t1, h.box, h.res, h.a1, h.a2, apart_own h.a3 t2, h.a4, apart_own h.a5 t2, apart_own h.a6 t2, h.gl, fun g hg => h.gh g (t2 ▸ hg), h.hx, h.ho, h.bel⟩
theorem set_size (w : World) (a : Addr) (u : Value) : (w.setCell a u).heap.size = w.heap.size := by simp [World.setCell]
/-- a store into the first row -/
theorem AL.setO {O n cap i : Nat} {y : Int} (h : AL w0 wr H X A bo br (.slice (some ⟨O, 0, none⟩) n cap) vr vl vh own rest low high) (hy : own[i]? = some y) (z : Int) : AL w0 (wr.setCell ⟨O, i, none⟩ (.int .i64 z)) H X A bo br (.slice (some ⟨O, 0, none⟩) n cap) vr vl vh (own.set i z) rest low high := by
  have h1 := h.oo.set1 (map_get hy) (.int .i64 z)
  rw [← show iC z = [Value.int .i64 z] from rfl, ← List.map_set] at h1
  have hO := (h.oo.own.lt O rfl).1
  have hX := h.hx
  have hw := h.ho
  refine ⟨h1, h.rr.keptBy (grown_cell _ _ _) (h.a1.symm.or), h.ll.keptBy (grown_cell _ _ _) (h.a2.symm.or), h.hh.keptBy (grown_cell _ _ _) (h.a3.symm.or), ?_, ?_, h.a1, h.a2, h.a3, h.a4, h.a5, h.a6, fun g hg => by rw [set_size]; exact h.gl g hg, fun g hg => by rw [set_size]; exact h.gh g hg, h.hx, h.ho, h.bel.setCell (p := ⟨O, i, none⟩) (by show w0.heap.size ≤ O; omega) _⟩
  · rw [Below.heap_setCell _ _ _ _ (by show X ≠ O; omega)]; exact h.box
  · rw [Below.heap_setCell _ _ _ _ (by show H ≠ O; omega)]; exact h.res
/-- the first of those that give is written anew -/
theorem AL.putHigh {g off n cap : Nat} (h : AL w0 wr H X A bo br vo vr vl (.slice (some ⟨g, off, none⟩) n cap) own rest low (p :: high)) (x y : Int) : AL w0 ((wr.setCell ⟨g, off, none⟩ (.int .i64 x)).setCell ⟨g, off + 1, none⟩ (.int .i64 y)) H X A bo br vo vr vl (.slice (some ⟨g, off, none⟩) n cap) own rest low ((x, y) :: high) := by
  have hg := (h.gh g rfl).1
  have hX := h.hx
  have hw := h.ho
  have n1 : ∀ {w : World} (i : Nat) (u : Value), Own w (X + 1) 3 1 vo (own.map iC) → Own (w.setCell ⟨g, i, none⟩ u) (X + 1) 3 1 vo (own.map iC) := fun i u hO => hO.keptBy (grown_cell _ _ _) h.a3.or
  have n2 : ∀ {w : World} (i : Nat) (u : Value), Own w (X + 1) 3 1 vr (rest.map iC) → Own (w.setCell ⟨g, i, none⟩ u) (X + 1) 3 1 vr (rest.map iC) := fun i u hO => hO.keptBy (grown_cell _ _ _) h.a5.or
  have n3 : ∀ {w : World} (i : Nat) (u : Value), Vw 77 w vl low → Vw 77 (w.setCell ⟨g, i, none⟩ u) vl low := fun i u hO => hO.keptBy (grown_cell _ _ _) h.a6.or
  refine ⟨n1 _ _ (n1 _ _ h.oo), n2 _ _ (n2 _ _ h.rr), n3 _ _ (n3 _ _ h.ll), h.hh.put x y, ?_, ?_, h.a1, h.a2, h.a3, h.a4, h.a5, h.a6, fun k hk => by rw [set_size, set_size]; exact h.gl k hk, fun k hk => by rw [set_size, set_size]; exact h.gh k hk, h.hx, h.ho, (h.bel.setCell (p := ⟨g, off, none⟩) (by show w0.heap.size ≤ g; omega) _).setCell (p := ⟨g, off + 1, none⟩) (by show w0.heap.size ≤ g; omega) _⟩
  · rw [Below.heap_setCell _ _ _ _ (by show X ≠ g; omega), Below.heap_setCell _ _ _ _ (by show X ≠ g; omega)]; exact h.box
  · rw [Below.heap_setCell _ _ _ _ (by show H ≠ g; omega), Below.heap_setCell _ _ _ _ (by show H ≠ g; omega)]; exact h.res
/-- the table's own box is set -/
theorem AL.setBox (h : AL w0 wr H X A bo br vo vr vl vh own rest low high) : AL w0 ((wr.setCell ⟨X, 1, none⟩ vo).setCell ⟨X, 2, none⟩ vr) H X A vo vr vo vr vl vh own rest low high := by
  have hX := h.hx
  have hw := h.ho
  have b1 := heap_setCell_same wr X 1 _ _ vo h.box
  have b2 := heap_setCell_same _ X 2 _ _ vr b1
  have n1 : ∀ {w : World} (i : Nat) (u v : Value) (l : List Int), Own w (X + 1) 3 1 v (l.map iC) → Own (w.setCell ⟨X, i, none⟩ u) (X + 1) 3 1 v (l.map iC) := fun i u v l hO => hO.setCell (Nat.lt_succ_self X) u
  have n3 : ∀ {w : World} (i : Nat) (u v : Value) (l : List (Int × Int)), (∀ g, v.ownBlock = some g → X < g) → Vw 77 w v l → Vw 77 (w.setCell ⟨X, i, none⟩ u) v l := fun i u v l hg hO => hO.keptBy (grown_cell _ _ _) (by
    cases hv : v.ownBlock with
    | none => exact Or.inl rfl
    | some g => have := hg g hv; exact Or.inr (by simp; omega))
  refine ⟨n1 _ _ _ _ (n1 _ _ _ _ h.oo), n1 _ _ _ _ (n1 _ _ _ _ h.rr), n3 _ _ _ _ (fun g hg => (h.gl g hg).1) (n3 _ _ _ _ (fun g hg => (h.gl g hg).1) h.ll), n3 _ _ _ _ (fun g hg => (h.gh g hg).1) (n3 _ _ _ _ (fun g hg => (h.gh g hg).1) h.hh), b2, ?_, h.a1, h.a2, h.a3, h.a4, h.a5, h.a6, fun k hk => by rw [set_size, set_size]; exact h.gl k hk, fun k hk => by rw [set_size, set_size]; exact h.gh k hk, h.hx, h.ho, (h.bel.setCell (p := ⟨X, 1, none⟩) (by show w0.heap.size ≤ X; omega) _).setCell (p := ⟨X, 2, none⟩) (by show w0.heap.size ≤ X; omega) _⟩
  rw [Below.heap_setCell _ _ _ _ (by show H ≠ X; omega), Below.heap_setCell _ _ _ _ (by show H ≠ X; omega)]; exact h.res
/-- one number more behind the first row, as a step of a region that draws its order -/
theorem step_row {P : Program} (w : World) {ops : Array Oper} {o : Oper} {a : Act} {K : Act → World → Prop} {Q : Exit → Act → World → Prop} {E : Prop} (hgd : o.guard = none) (s x : Operand) (t : TypeId)
    (ho : o.op = .call { callee := .builtin .append, args := #[s, x], argTypes := #[t, t] }) (ht : P.underlying t = some (.slice 3)) (hinfo : (P.info? 3).map (fun i => (i.zero, i.size, i.bytes)) = some (some (.int .i64 0), 1, 8))
    (w0 : World) (H X : Nat) (A : Int) (bo br vo vr vl vh : Value) (own rest : List Int) (low high : List (Int × Int)) (hs : a.eval s = vo) (hT : AL w0 w H X A bo br vo vr vl vh own rest low high) (hl : own.length ≤ 40)
    (B : Nat) (z : Int) (hx : a.eval x = .slice (some ⟨B, 0, none⟩) 1 1) (hnews : w.cell? ⟨B, 0, none⟩ = some (.int .i64 z))
    (h : ∀ g cap w', AL w0 w' H X A bo br (.slice (some ⟨g, 0, none⟩) (own.length + 1) cap) vr vl vh (own ++ [z]) rest low high → w.grownBy w' vo.ownBlock → K (a.put o.dst (.slice (some ⟨g, 0, none⟩) (own.length + 1) cap)) w') :
    if Region.wanted o (yielded ops a.tmps) = true then Oper.wp P o a w K Q else E := by
  obtain ⟨i, hi, hz0, hz1, hz2⟩ := info_parts hinfo
  have hlen : (own.map iC).length = own.length := List.length_map _
  have hown := hT.oo.own
  rw [hlen] at hown
  have hlt := hT.lX
  have hHX := hT.hx
  have hw0 := hT.ho
  refine step_append_lies w hgd s x t ho (X + 1) 3 i (.int .i64 0) 1 8 ht hi hz0 hz1 hz2 rfl (by decide) vo own.length (own.map iC).flatten hs hown ⟨B, 0, none⟩ 1 1 [.int .i64 z] hx rfl (fun j u hj => by
    have e : j = 0 := by have := (List.getElem?_eq_some_iff.1 hj).1; simp at this; exact this
    subst e
    simp at hj
    subst hj
    rw [addr_add]
    exact hnews) (by simp [Value.oneCell']) (by decide) (by unfold maxLen; omega) (by omega) (by omega) _ rfl ?_
  intro g cap w' h2 h3 h4 h5
  have hv : (Value.slice (some ⟨g, 0, none⟩) (own.length + 1) cap).ownBlock = vo.ownBlock ∨ (Value.slice (some ⟨g, 0, none⟩) (own.length + 1) cap).ownBlock = some w.heap.size := by
    rcases h4 with h4 | h4
    · exact Or.inl h4.symm
    · exact Or.inr (by rw [h4]; rfl)
  have hXn : some X ≠ vo.ownBlock := fun e => by have := (hT.oo.own.lt X e.symm).1; omega
  have hHn : some H ≠ vo.ownBlock := fun e => by have := (hT.oo.own.lt H e.symm).1; omega
  have ap : ∀ {u : Value}, Apart vo u → (∀ k, u.ownBlock = some k → k < w.heap.size) → Apart (.slice (some ⟨g, 0, none⟩) (own.length + 1) cap) u := fun ha hu k hk hk2 => by
    rcases hv with e | e
    · exact ha k (e.symm.trans hk) hk2
    · have := hu k hk2
      rw [e, Option.some.injEq] at hk
      omega
  refine h g cap w' ⟨⟨?_, ?_⟩, hT.rr.keptBy h3 hT.a1.symm.or, hT.ll.keptBy h3 hT.a2.symm.or, hT.hh.keptBy h3 hT.a3.symm.or, (h3.block X hlt hXn).trans hT.box, (h3.block H (by omega) hHn).trans hT.res, ap hT.a1 (fun k hk => (hT.rr.own.lt k hk).2), ap hT.a2 (fun k hk => (hT.gl k hk).2), ap hT.a3 (fun k hk => (hT.gh k hk).2), hT.a4, hT.a5, hT.a6, fun k hk => ⟨(hT.gl k hk).1, Nat.lt_of_lt_of_le (hT.gl k hk).2 h3.size⟩, fun k hk => ⟨(hT.gh k hk).1, Nat.lt_of_lt_of_le (hT.gh k hk).2 h3.size⟩, hHX, hw0, hT.bel.grown h3 (by omega) (fun j hj => by have := (hT.oo.own.lt j hj).1; omega)⟩ h3
  · rw [List.map_append, List.length_append, List.flatten_append, List.length_map]; exact h2
  · intro r hr
    obtain ⟨y, _, rfl⟩ := List.mem_map.1 hr
    rfl
end Go.Proofs.Yteddoccgbebbeab
