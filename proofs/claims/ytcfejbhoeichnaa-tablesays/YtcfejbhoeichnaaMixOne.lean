/- The contract of mix.Mix. -/
import Derived.Test.YtcfejbhoeichnaaBase
import Derived.Test.YtcfejbhoeichnaaMixMath
namespace Go.Proofs.Ytcfejbhoeichnaa
open Go.ChangeShapes Go.WideShapes Go.ChangeAt Go.RowKit

set_option maxHeartbeats 400000 in
theorem mix_any (x : Nat) (h : x < MixMath.M) (w : World) :
    Calls Try.prog 53 #[.int .u64 x] w fun e w' => e = .returned (.int .u64 (MixMath.mixN x : Nat)) ∧ w = w' := by
  have hx : (x : Int) < 18446744073709551616 := by have : x < 18446744073709551616 := h; omega
  go_enter Try.func53, Try.ntmps53
  go_wp2
  go_ret
  exact ⟨ret_int (MixMath.mix_walk x h), rfl⟩

end Go.Proofs.Ytcfejbhoeichnaa
