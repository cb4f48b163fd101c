/- What the law on draws keeps in memory: two rows of counts, a reservoir, a set of what came; each in blocks of its own. -/
import Derived.Test.YteddoccgbebbeabPondVar
import Derived.Test.YteddoccgbebbeabIntSet
import Derived.Test.YteddoccgbebbeabMany
namespace Go.Proofs.Yteddoccgbebbeab
open Go.ChangeShapes Go.WideShapes Go.ChangeAt Go.RowKit

theorem OwnsInts.kept {P : Program} {k e : TypeId} {w w' : World} {b n : Nat} {ks : List Int} {row : Option Nat} (h : OwnsInts P k e w b n ks) (hg : w.grownBy w' row) (hne : some b ≠ row) : OwnsInts P k e w' b n ks := by
  have hlt := h.lt
  obtain ⟨D, ⟨es, clock, h1, h2, h3, h4⟩, h5⟩ := h
  exact ⟨D, ⟨es, clock, (hg.block b hlt hne).trans h1, h2, h3, h4⟩, h5⟩

structure Draws (W0 wr : World) (G1 G2 B M n : Nat) (one two : List Int) (S : Int) (v : Value) (L ks : List Int) (c : Nat) : Prop where
  o1 : Own wr W0.heap.size 3 1 (.slice (some ⟨G1, 0, none⟩) n n) (one.map iC)
  o2 : Own wr W0.heap.size 3 1 (.slice (some ⟨G2, 0, none⟩) n n) (two.map iC)
  pv : PVar W0 wr B 3 S v L
  mp : OwnsInts Try.prog 3 4 wr M c ks
  d12 : G1 ≠ G2
  d1 : G1 < B
  d2 : G2 < B
  dm : B < M
  vm : v.ownBlock ≠ some M
variable {W0 wr w1 : World} {G1 G2 B M n c : Nat} {one two L ks L' : List Int} {S : Int} {v v' : Value}
theorem Draws.below (h : Draws W0 wr G1 G2 B M n one two S v L ks c) (hb : Below wr.heap.size wr w1) : Draws W0 w1 G1 G2 B M n one two S v L ks c :=
  ⟨h.o1.below hb, h.o2.below hb, h.pv.below hb, h.mp.below hb, h.d12, h.d1, h.d2, h.dm, h.vm⟩
theorem own_ge (h : Own wr W0.heap.size 3 1 (.slice (some ⟨G1, 0, none⟩) n n) (one.map iC)) : W0.heap.size ≤ G1 := (h.own.lt G1 rfl).1
theorem PVar.beside {w wr : World} {B : Nat} {K S : Int} {v : Value} {L : List Int} (h : PVar w wr B K S v L) {G i : Nat} (hG : G < B) (hw : w.heap.size ≤ G) (x : Value) : PVar w (wr.setCell ⟨G, i, none⟩ x) B K S v L :=
  ⟨by rw [Below.heap_setCell _ _ _ _ (by show B ≠ G; omega)]; exact h.blk, h.own.setCell (by show G < B + 1; omega) x, h.bel.setCell (p := ⟨G, i, none⟩) hw x, h.lo⟩
theorem Draws.set1 (h : Draws W0 wr G1 G2 B M n one two S v L ks c) {i : Nat} {y : Int} (hy : one[i]? = some y) (z : Int) : Draws W0 (wr.setCell ⟨G1, i, none⟩ (.int .i64 z)) G1 G2 B M n (one.set i z) two S v L ks c := by
  have h1 := h.o1.set1 (map_get hy) (.int .i64 z)
  rw [← show iC z = [Value.int .i64 z] from rfl, ← List.map_set] at h1
  have := h.d1
  have := h.dm
  refine ⟨h1, h.o2.keptBy (grown_cell _ _ _) (Or.inr ?_), h.pv.beside h.d1 (own_ge h.o1) _, h.mp.kept (grown_cell _ _ _) ?_, h.d12, h.d1, h.d2, h.dm, h.vm⟩
  · simp [Value.ownBlock]; exact fun e => h.d12 e.symm
  · simp; omega
theorem Draws.set2 (h : Draws W0 wr G1 G2 B M n one two S v L ks c) {i : Nat} {y : Int} (hy : two[i]? = some y) (z : Int) : Draws W0 (wr.setCell ⟨G2, i, none⟩ (.int .i64 z)) G1 G2 B M n one (two.set i z) S v L ks c := by
  have h1 := h.o2.set1 (map_get hy) (.int .i64 z)
  rw [← show iC z = [Value.int .i64 z] from rfl, ← List.map_set] at h1
  have := h.d2
  have := h.dm
  refine ⟨h.o1.keptBy (grown_cell _ _ _) (Or.inr ?_), h1, h.pv.beside h.d2 (own_ge h.o2) _, h.mp.kept (grown_cell _ _ _) ?_, h.d12, h.d1, h.d2, h.dm, h.vm⟩
  · simp [Value.ownBlock]; exact h.d12
  · simp; omega
theorem Draws.putM (h : Draws W0 wr G1 G2 B M n one two S v L ks c) {ks' : List Int} {c' : Nat} (hI : OwnsInts Try.prog 3 4 w1 M c' ks') (hg : wr.grownBy w1 (some M)) : Draws W0 w1 G1 G2 B M n one two S v L ks' c' := by
  have := h.d1
  have := h.d2
  have := h.dm
  have hB := h.pv.big
  have hlo := h.pv.lo
  refine ⟨h.o1.keptBy hg (Or.inr ?_), h.o2.keptBy hg (Or.inr ?_), ⟨?_, h.pv.own.keptBy hg (Or.inr h.vm), h.pv.bel.grown hg (Nat.le_trans hlo (Nat.le_of_lt hB)) (fun j hj => by cases hj; omega), hlo⟩, hI, h.d12, h.d1, h.d2, h.dm, h.vm⟩
  · simp [Value.ownBlock]; omega
  · simp [Value.ownBlock]; omega
  · rw [hg.block B hB (by simp; omega)]; exact h.pv.blk
theorem Draws.setP (h : Draws W0 wr G1 G2 B M n one two S v L ks c) {S' : Int} {base : Nat} (hO : Own wr base 3 1 v' (L'.map iC)) (hM : M < base) :
    Draws W0 (((wr.setCell ⟨B, 0, none⟩ (.int .i64 3)).setCell ⟨B, 1, none⟩ (.int .i64 S')).setCell ⟨B, 2, none⟩ v') G1 G2 B M n one two S' v' L' ks c := by
  have := h.d1
  have := h.d2
  have := h.dm
  have k1 : ∀ {w : World} {G : Nat} {l : List Int} (i : Nat) (x : Value), G < B → Own w W0.heap.size 3 1 (.slice (some ⟨G, 0, none⟩) n n) (l.map iC) → Own (w.setCell ⟨B, i, none⟩ x) W0.heap.size 3 1 (.slice (some ⟨G, 0, none⟩) n n) (l.map iC) := fun i x hG hO => hO.keptBy (grown_cell _ _ _) (Or.inr (by simp [Value.ownBlock]; omega))
  have k2 : ∀ {w : World} (i : Nat) (x : Value), OwnsInts Try.prog 3 4 w M c ks → OwnsInts Try.prog 3 4 (w.setCell ⟨B, i, none⟩ x) M c ks := fun i x hI => hI.kept (grown_cell _ _ _) (by simp; omega)
  refine ⟨k1 _ _ h.d1 (k1 _ _ h.d1 (k1 _ _ h.d1 h.o1)), k1 _ _ h.d2 (k1 _ _ h.d2 (k1 _ _ h.d2 h.o2)), h.pv.set hO (by omega), k2 _ _ (k2 _ _ (k2 _ _ h.mp)), h.d12, h.d1, h.d2, h.dm, fun e => ?_⟩
  have := (hO.own.lt M e).1
  omega
end Go.Proofs.Yteddoccgbebbeab
