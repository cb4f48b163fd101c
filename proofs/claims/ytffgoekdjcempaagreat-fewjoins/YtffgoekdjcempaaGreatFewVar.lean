/- A sketch of what comes often in a variable; what is put to a sketch of all that came. -/
import Derived.Test.YtffgoekdjcempaaGreatFewPut
namespace Go.Proofs.YtffgoekdjcempaaGreat
open Go.ChangeShapes Go.WideShapes Go.ChangeAt Go.RowKit
open Few

namespace Few
/-- a sketch in a variable that is written no more -/
def FV (w : World) (X : Nat) (K L : Int) (q : Option Addr) (n c : Nat) (C : List (Int × Int)) : Prop := w.heap[X]? = some (.cells #[.int .i64 K, .int .i64 L, .slice q n c] 24 (0, 0)) ∧ Tab w q n c 2 (C.map iiC)
theorem FV.below {w w' : World} {X : Nat} {K L : Int} {q : Option Addr} {n c : Nat} {C : List (Int × Int)} (h : FV w X K L q n c C) (hb : Below w.heap.size w w') : FV w' X K L q n c C := ⟨kept_blk hb h.1, h.2.below hb⟩
theorem FV.new {w : World} {K L : Int} {q : Option Addr} {n c : Nat} {C : List (Int × Int)} (h : Tab w q n c 2 (C.map iiC)) : FV (w.alloc (.cells #[.int .i64 K, .int .i64 L, .slice q n c] 24)) w.heap.size K L q n c C ∧ Below w.heap.size w (w.alloc (.cells #[.int .i64 K, .int .i64 L, .slice q n c] 24)) :=
  ⟨⟨(MapKept.heap_alloc w _).1, h.below ((Below.refl _ _).alloc (Nat.le_refl _) _)⟩, (Below.refl _ _).alloc (Nat.le_refl _) _⟩
theorem FV.cells {w : World} {X : Nat} {K L : Int} {q : Option Addr} {n c : Nat} {C : List (Int × Int)} (h : FV w X K L q n c C) : w.cell? ⟨X, 0, none⟩ = some (.int .i64 K) ∧ w.cell? ⟨X, 1, none⟩ = some (.int .i64 L) ∧ w.cell? ⟨X, 2, none⟩ = some (.slice q n c) := three_cells h.1
theorem setE_zero {L : Int} {C : List (Int × Int)} : setE L C = 0 ↔ L ≤ 1000000000000 ∧ ∀ c ∈ C, c.2 ≤ 1000000000000 := by
  unfold setE
  split
  · constructor
    · intro h; cases h
    · rintro ⟨h, _⟩; omega
  split
  · rename_i h1 h2
    constructor
    · intro h; cases h
    · rintro ⟨_, h⟩
      obtain ⟨c, hc, hb⟩ := List.any_eq_true.1 h2
      have := h c hc
      unfold bigC at hb
      rw [decide_eq_true_iff] at hb
      omega
  · rename_i h1 h2
    constructor
    · intro _
      refine ⟨by omega, fun c hc => ?_⟩
      rcases Int.lt_or_le 1000000000000 c.2 with h | h
      · exact absurd (List.any_eq_true.2 ⟨c, hc, by unfold bigC; exact decide_eq_true h⟩) h2
      · exact h
    · intro _; rfl
theorem setE_good {K L : Int} {C : List (Int × Int)} (h : Few.Good K L C) : setE L C = 0 := setE_zero.2 ⟨h.l2, fun c hc => (h.num c hc).2⟩
theorem near_putE {K L x n : Int} {A C : List (Int × Int)} (h : Near K A L C) (hn : 1 ≤ n) (hA : tot A + n ≤ 1000000000000) (hn2 : n ≤ 1000000000000) : putE K L C x n = 0 ∧ Near K (A ++ [(x, n)]) (L + putZ K C x n) (putC K C x n) := by
  have g := near_put (x := x) h hn hA
  refine ⟨?_, g⟩
  unfold putE
  rw [if_neg (by rw [fewE_zero.2 h.good]; decide), if_neg (by omega)]
  exact setE_good g.good
/-- what is put at once -/
theorem put_at {K L : Int} {C : List (Int × Int)} {i : Nat} {key m n : Int} (hG : Few.Good K L C) (hi : C[i]? = some (key, m)) (h1 : 1 ≤ n) (h2 : n ≤ 1000000000000) :
    putZ K C key n = 0 ∧ putC K C key n = C.set i (key, m + n) ∧ (m + n ≤ 1000000000000 → putE K L C key n = 0 ∧ Few.Good K L (C.set i (key, m + n))) ∧ (1000000000000 < m + n → putE K L C key n = 2) := by
  have hadd : addC C (key, n) = C.set i (key, m + n) := addC_at hi (fun j d hj hd => at_lt hG.ord hd hi hj)
  have hm := hG.num _ (List.mem_of_getElem? hi)
  simp only at hm
  have hil := (List.getElem?_eq_some_iff.1 hi).1
  have hnum : ∀ c ∈ C.set i (key, m + n), 1 ≤ c.2 := fun c hc => by
    rcases List.mem_or_eq_of_mem_set hc with hc | rfl
    · exact (hG.num c hc).1
    · simp only; omega
  have hz : putZ K C key n = 0 := by
    unfold putZ
    rw [hadd]
    exact (exC_all hnum).2.2.2 (by rw [List.length_set]; have := hG.len; have := hG.k1; omega)
  have hc : putC K C key n = C.set i (key, m + n) := by
    unfold putC
    rw [hz, hadd, lowC_zero hnum]
  have hE : putE K L C key n = setE L (C.set i (key, m + n)) := by
    unfold putE
    rw [if_neg (by rw [fewE_zero.2 hG]; decide), if_neg (by omega), hz, hc, Int.add_zero]
  refine ⟨hz, hc, fun hle => ?_, fun hgt => ?_⟩
  · have hg : Few.Good K L (C.set i (key, m + n)) := by
      refine ⟨hG.k1, hG.k2, hG.l1, hG.l2, by rw [List.length_set]; exact hG.len, fun c hc => ⟨hnum c hc, ?_⟩, ?_⟩
      · rcases List.mem_or_eq_of_mem_set hc with hc | rfl
        · exact (hG.num c hc).2
        · exact hle
      · rw [← hadd]; exact addC_ord hG.ord
    exact ⟨by rw [hE]; exact setE_good hg, hg⟩
  · rw [hE]
    unfold setE
    rw [if_neg (by have := hG.l2; omega), if_pos]
    exact List.any_eq_true.2 ⟨(key, m + n), List.mem_of_getElem? (i := i) (by rw [List.getElem?_set_self hil]), by unfold bigC; exact decide_eq_true hgt⟩
end Few
end Go.Proofs.YtffgoekdjcempaaGreat
