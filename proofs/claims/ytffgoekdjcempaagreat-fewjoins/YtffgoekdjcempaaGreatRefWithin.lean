/- The contract of the document's own test of bounds (culref.within). -/
import Derived.Test.YtffgoekdjcempaaGreatBase
namespace Go.Proofs.YtffgoekdjcempaaGreat
open Go.ChangeShapes Go.WideShapes Go.ChangeAt Go.RowKit

set_option maxHeartbeats 400000 in
theorem within_ref (x a b : Int) (w : World) :
    Calls Tryz.prog 21 #[.int .i64 x, .int .i64 a, .int .i64 b] w fun e w' => e = .returned (.bool (decide (a ≤ x) && decide (x ≤ b))) ∧ w = w' := by
  by_cases h : a ≤ x
  · have h' : decide (a ≤ x) = true := by simpa using h
    go_enter Tryz.func21, Tryz.ntmps21
    go_wp2
    go_ret
    exact ⟨by rw [h', Bool.true_and]; rfl, rfl⟩
  · have h' : decide (a ≤ x) = false := by simpa using h
    go_enter Tryz.func21, Tryz.ntmps21
    go_wp2
    go_ret
    exact ⟨rfl, rfl⟩

end Go.Proofs.YtffgoekdjcempaaGreat
