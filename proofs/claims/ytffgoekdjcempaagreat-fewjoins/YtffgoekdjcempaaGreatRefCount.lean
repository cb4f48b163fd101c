/- The contract of the document's own test of counts (culref.Count). -/
import Derived.Test.YtffgoekdjcempaaGreatRefWithin
namespace Go.Proofs.YtffgoekdjcempaaGreat
open Go.ChangeShapes Go.WideShapes Go.ChangeAt Go.RowKit

set_option maxHeartbeats 400000 in
theorem count_ref (n : Int) (w : World) :
    Calls Tryz.prog 22 #[.int .i64 n] w fun e w' => e = .returned (.bool (decide (0 ≤ n) && decide (n ≤ 1000000000000))) ∧ w = w' := by
  have H := Lib.hid (within_ref n 0 1000000000000 w)
  generalize (decide (0 ≤ n) && decide (n ≤ 1000000000000)) = c at *
  go_enter Tryz.func22, Tryz.ntmps22
  go_wp2_with fail
  refine H.out.mono ?_
  rintro e w1 ⟨rfl, rfl⟩
  go_wp2
  go_ret
  exact ⟨rfl, rfl⟩
end Go.Proofs.YtffgoekdjcempaaGreat
