/- The sum of what counters hold; a box of two cells. Shapes and mathematics alone. -/
import Derived.Test.YtffgoekdjcempaaGreatGr3
namespace Go.Proofs.YtffgoekdjcempaaGreat
open Go.ChangeShapes Go.WideShapes Go.ChangeAt Go.RowKit
namespace Came
def sumN (C : List (Int × Int)) : Int := (C.map (fun p => p.2)).sum
theorem sumN_snoc (C : List (Int × Int)) (p : Int × Int) : sumN (C ++ [p]) = sumN C + p.2 := by simp [sumN]
theorem sumN_append (C D : List (Int × Int)) : sumN (C ++ D) = sumN C + sumN D := by simp [sumN]
theorem box_two {W : World} {B : Nat} {a b : Value} {t : TypeId} (h : W.heap[B]? = some (.cells #[a, b] t (0, 0))) : (W.cell? ⟨B, 0, none⟩ = some a ∧ W.cell? ⟨B, 1, none⟩ = some b) ∧ W.frozen? ⟨B, 0, none⟩ = false ∧ W.frozen? ⟨B, 1, none⟩ = false :=
  ⟨⟨cell_blk h rfl, cell_blk h rfl⟩, frozen_blk h, frozen_blk h⟩
end Came
end Go.Proofs.YtffgoekdjcempaaGreat
