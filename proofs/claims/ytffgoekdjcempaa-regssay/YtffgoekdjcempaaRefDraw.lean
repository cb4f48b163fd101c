/- The contract of the document's own test of a random value (culref.Draw). -/
import Derived.Test.YtffgoekdjcempaaRefWithin
namespace Go.Proofs.Ytffgoekdjcempaa
open Go.ChangeShapes Go.WideShapes Go.ChangeAt Go.RowKit

set_option maxRecDepth 100000 in
set_option maxHeartbeats 400000 in
theorem refDraw_any (n : Int) (w : World) (c : Bool) (hc : c = (decide (0 ≤ n) && decide (n < 72057594037927936))) :
    Calls Try.prog 18 #[.int .i64 n] w fun e w' => e = .returned (.bool c) ∧ w = w' := by
  have C := within_ref n 0 72057594037927935 w
  have e : (decide (0 ≤ n) && decide (n ≤ 72057594037927935)) = c := by
    rw [hc]
    congr 1
    exact decide_eq_decide.2 (by omega)
  rw [e] at C
  have C := Lib.hid C
  clear e hc
  go_enter Try.func18, Try.ntmps18
  go_wp2_with fail
  refine C.out.mono ?_
  rintro e w1 ⟨rfl, rfl⟩
  go_wp2
  go_ret
  exact ⟨rfl, rfl⟩
end Go.Proofs.Ytffgoekdjcempaa
