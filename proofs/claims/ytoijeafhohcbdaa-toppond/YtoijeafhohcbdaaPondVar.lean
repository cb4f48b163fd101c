/- A reservoir that lies in a variable of the call: its block, and its items in a slice of the call's own behind it. -/
import Derived.Test.YtoijeafhohcbdaaPondOffer
namespace Go.Proofs.Ytoijeafhohcbdaa
open Go.ChangeShapes Go.WideShapes Go.ChangeAt Go.RowKit

theorem heap_two (w : World) (o o' : Obj) : ((w.alloc o).alloc o').heap[w.heap.size]? = some o := by
  rw [Below.heap_alloc _ _ _ (by simp)]
  exact (MapKept.heap_alloc w o).1
structure PVar (w wr : World) (B : Nat) (K S : Int) (v : Value) (L : List Int) : Prop where
  blk : wr.heap[B]? = some (.cells #[.int .i64 K, .int .i64 S, v] 71 (0, 0))
  own : Own wr (B + 1) 3 1 v (L.map iC)
  bel : Below w.heap.size w wr
  lo : w.heap.size ≤ B
theorem PVar.big {w wr : World} {B : Nat} {K S : Int} {v : Value} {L : List Int} (h : PVar w wr B K S v L) : B < wr.heap.size := (Array.getElem?_eq_some_iff.1 h.blk).1
theorem PVar.alloc {w wr : World} {B : Nat} {K S : Int} {v : Value} {L : List Int} (h : PVar w wr B K S v L) (o : Obj) : PVar w (wr.alloc o) B K S v L := by
  have h1 := h.big
  have h2 := h.lo
  exact ⟨by rw [Below.heap_alloc _ _ _ h1]; exact h.blk, h.own.alloc o, h.bel.alloc (by omega) o, h2⟩
theorem PVar.below {w wr w' : World} {B : Nat} {K S : Int} {v : Value} {L : List Int} (h : PVar w wr B K S v L) (hb : Below wr.heap.size wr w') : PVar w w' B K S v L :=
  ⟨keep_blk hb h.blk, h.own.below hb, below_on h.bel hb, h.lo⟩
theorem PVar.new {w wr : World} (K S : Int) (hb : Below w.heap.size w wr) : PVar w (wr.alloc (.cells #[.int .i64 K, .int .i64 S, .slice none 0 0] 71)) wr.heap.size K S (.slice none 0 0) [] :=
  ⟨(MapKept.heap_alloc _ _).1, Own.nil _ _ _ _, hb.alloc hb.size _, hb.size⟩
theorem PVar.drew {w wr : World} {B : Nat} {K S : Int} {v : Value} {L : List Int} (h : PVar w wr B K S v L) : PVar w wr.drew B K S v L := ⟨h.blk, h.own.drew, h.bel.drew, h.lo⟩
theorem PVar.seen {w wr : World} {B : Nat} {K S : Int} {v : Value} {L : List Int} (h : PVar w wr B K S v L) (S' : Int) : PVar w (wr.setCell ⟨B, 1, none⟩ (.int .i64 S')) B K S' v L := by
  have h0 := heap_setCell_same wr B 1 _ _ (.int .i64 S') h.blk
  exact ⟨h0, h.own.setCell (Nat.lt_succ_self B) _, h.bel.setCell h.lo _, h.lo⟩
theorem PVar.set {w wr : World} {B base : Nat} {K S K' S' : Int} {v v' : Value} {L L' : List Int} (h : PVar w wr B K S v L) (hO : Own wr base 3 1 v' (L'.map iC)) (hB : B < base) :
    PVar w (((wr.setCell ⟨B, 0, none⟩ (.int .i64 K')).setCell ⟨B, 1, none⟩ (.int .i64 S')).setCell ⟨B, 2, none⟩ v') B K' S' v' L' :=
  ⟨pond_set h.blk, (((hO.setCell (a := ⟨B, 0, none⟩) hB _).setCell (a := ⟨B, 1, none⟩) hB _).setCell (a := ⟨B, 2, none⟩) hB _).base_le hB,
    ((h.bel.setCell (p := ⟨B, 0, none⟩) h.lo _).setCell (p := ⟨B, 1, none⟩) h.lo _).setCell (p := ⟨B, 2, none⟩) h.lo _, h.lo⟩
/-- behind an append of one item -/
theorem PVar.mid {w wr w1 : World} {B : Nat} {K S : Int} {v : Value} {L : List Int} {o : Obj} (h : PVar w wr B K S v L) (hg : (wr.alloc o).grownBy w1 v.ownBlock) :
    w1.heap[B]? = some (.cells #[.int .i64 K, .int .i64 S, v] 71 (0, 0)) ∧ Below w.heap.size w w1 := by
  have h2 := h.lo
  have h1 := h.big
  refine ⟨blk_grown (w := w) h.own hg (Nat.lt_succ_self B) h.blk, ?_⟩
  have hs : w.heap.size ≤ (wr.alloc o).heap.size := by simp; omega
  exact (h.own.alloc o).under (h.bel.alloc (by omega) o) (by omega) hs hg
theorem PVar.push {w w1 : World} {B : Nat} {K S x : Int} {v v' : Value} {L : List Int} (h1 : w1.heap[B]? = some (.cells #[.int .i64 K, .int .i64 S, v] 71 (0, 0))) (hb : Below w.heap.size w w1) (hO : Own w1 (B + 1) 3 1 v' (L.map iC ++ [iC x])) (lo : w.heap.size ≤ B) :
    PVar w (w1.setCell ⟨B, 2, none⟩ v') B K S v' (L ++ [x]) := by
  have h0 := heap_setCell_same w1 B 2 _ _ v' h1
  refine ⟨h0, ?_, hb.setCell lo _, lo⟩
  rw [List.map_append]
  exact hO.setCell (Nat.lt_succ_self B) _
theorem pondE_full {k : Nat} {S : Int} (h1 : 1 ≤ k) (h2 : k ≤ 16) (h3 : (k : Int) ≤ S) (h4 : S ≤ 1000000000000) : pondE k S k = 0 := by
  unfold pondE
  rw [if_neg (by omega), if_pos (by omega)]
theorem putE_full {k : Nat} {S : Int} {d : Int} (h1 : 1 ≤ k) (h2 : k ≤ 16) (h3 : (k : Int) ≤ S) (h4 : S < 1000000000000) (h5 : 0 ≤ d) (h6 : d ≤ S) : putE k S k d = 0 := by
  unfold putE
  rw [pondE_full h1 h2 h3 (by omega), if_neg (by simp), if_neg (by omega), if_neg (by omega)]
theorem pondE_part {k n : Nat} (h1 : 1 ≤ k) (h2 : k ≤ 16) (h3 : n < k) : pondE k n n = 0 := by
  unfold pondE
  rw [if_neg (by omega), if_pos (by omega)]
theorem putE_part {k n : Nat} {d : Int} (h1 : 1 ≤ k) (h2 : k ≤ 16) (h3 : n < k) (h5 : 0 ≤ d) (h6 : d ≤ n) : putE k n n d = 0 := by
  unfold putE
  rw [pondE_part h1 h2 h3, if_neg (by simp), if_neg (by omega), if_neg (by omega)]
theorem pondL_len (k : Nat) (S : Int) (L : List Int) (x : Int) (d : Nat) : (pondL k S L x d).length = if S < (k : Int) then L.length + 1 else L.length := by
  unfold pondL
  split
  · simp
  · split <;> simp
end Go.Proofs.Ytoijeafhohcbdaa
