/- The contract of mix.Mix. -/
import Derived.Test.YtoijeafhohcbdaaBase
import Derived.Test.YtoijeafhohcbdaaMixMath
namespace Go.Proofs.Ytoijeafhohcbdaa
open Go.ChangeShapes Go.WideShapes Go.ChangeAt Go.RowKit

set_option maxHeartbeats 400000 in
theorem mix_any (x : Nat) (h : x < MixMath.M) (w : World) :
    Calls Try.prog 73 #[.int .u64 x] w fun e w' => e = .returned (.int .u64 (MixMath.mixN x : Nat)) ∧ w = w' := by
  have hx : (x : Int) < 18446744073709551616 := by have : x < 18446744073709551616 := h; omega
  go_enter Try.func73, Try.ntmps73
  go_wp2
  go_ret
  exact ⟨ret_int (MixMath.mix_walk x h), rfl⟩

end Go.Proofs.Ytoijeafhohcbdaa
