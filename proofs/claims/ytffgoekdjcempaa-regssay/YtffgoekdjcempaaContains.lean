/- The contract of slices.Contains on slices of int. -/
import Derived.Test.YtffgoekdjcempaaShelf
import Derived.Test.YtffgoekdjcempaaShapes
namespace Go.Proofs.Ytffgoekdjcempaa
open Go.ChangeShapes Go.WideShapes Go.ChangeAt Go.RowKit

theorem tab_cells {w : World} {a : Option Addr} {len cap : Nat} {l : List Int} (h : Tab w a len cap 1 (l.map iC)) (hp : 0 < len) : ∃ b off, a = some ⟨b, off, none⟩ ∧ ∀ j, j < l.length → w.cell? ⟨b, off + j, none⟩ = some (.int .i64 (l.getD j 0)) := by
  obtain ⟨b, off, ha, _, hc⟩ := h.hspot hp
  refine ⟨b, off, ha, fun j hj => ?_⟩
  have := hc j (iC l[j]) (by rw [List.getElem?_map, List.getElem?_eq_getElem hj]; rfl) 0 (.int .i64 l[j]) rfl
  rw [Nat.mul_one, Nat.add_zero] at this
  rw [this, List.getD_eq_getElem?_getD, List.getElem?_eq_getElem hj]
  rfl
theorem contains_ints (a : Option Addr) (len cap : Nat) (l : List Int) (x : Int) (w : World) (h : Tab w a len cap 1 (l.map iC)) (c : Bool) (hc : c = true ↔ x ∈ l) :
    Calls Try.prog 42 #[.slice a len cap, .int .i64 x] w fun e w' => e = .returned (.bool c) ∧ w = w' := by
  have hl := h.hlen
  have hm := h.hmax
  have he := h.hle
  rw [List.length_map] at hl
  unfold maxLen at hm
  rcases Nat.eq_zero_or_pos len with h0 | h0
  · subst h0
    obtain rfl := List.length_eq_zero_iff.1 hl
    obtain rfl : c = false := by cases c <;> simp at hc ⊢
    exact (slices_Contains_int_empty a cap x w).mono fun e w' ⟨h1, h2⟩ => ⟨h1, h2.symm⟩
  · obtain ⟨b, off, rfl, hcell⟩ := tab_cells h h0
    refine (slices_Contains_int b off len cap l x w (by omega) (by omega) hcell).mono fun e w' ⟨h1, h2⟩ => ⟨?_, h2.symm⟩
    rw [h1, List.take_of_length_le (by omega)]
    congr 2
    rw [Bool.eq_iff_iff, hc]
    simp

end Go.Proofs.Ytffgoekdjcempaa
