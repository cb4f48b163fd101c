/- The contract of the document's own mixing (culref.Mix). -/
import Derived.Test.YtcfejbhoeichnaaBase
import Derived.Test.YtcfejbhoeichnaaMixMath
namespace Go.Proofs.Ytcfejbhoeichnaa
open Go.ChangeShapes Go.WideShapes Go.ChangeAt Go.RowKit

theorem quo_walk (m s : Nat) (h : m < MixMath.M) : IntKind.u64.wrap ((m : Int).tdiv (s : Int)) = (m : Int) / (s : Int) := by
  have h1 : m / s < 18446744073709551616 := Nat.lt_of_le_of_lt (Nat.div_le_self _ _) h
  rw [Int.tdiv_eq_ediv_of_nonneg (by omega), show (m : Int) / (s : Int) = ((m / s : Nat) : Int) from (Int.natCast_ediv m s).symm, IntKind.wrap_u64]
  generalize m / s = q at *
  omega

set_option maxHeartbeats 400000 in
theorem refMix_any (x : Nat) (h : x < MixMath.M) (w : World) :
    Calls Try.prog 41 #[.int .u64 x] w fun e w' => e = .returned (.int .u64 (MixMath.mixN x : Nat)) ∧ w = w' := by
  have hx : (x : Int) < 18446744073709551616 := by have : x < 18446744073709551616 := h; omega
  go_enter Try.func41, Try.ntmps41
  go_wp2
  go_ret
  refine ⟨ret_int ?_, rfl⟩
  have a := MixMath.sx_walk x 30 1073741824 (by decide) h
  have b := MixMath.mm_walk (MixMath.sx 30 x) 13787848793156543929
  have q1 := quo_walk (MixMath.mm MixMath.F1 (MixMath.sx 30 x)) 134217728 (MixMath.mm_lt _ _)
  have c := MixMath.sx_walk (MixMath.mm MixMath.F1 (MixMath.sx 30 x)) 27 134217728 (by decide) (MixMath.mm_lt _ _)
  have d := MixMath.mm_walk (MixMath.sx 27 (MixMath.mm MixMath.F1 (MixMath.sx 30 x))) 10723151780598845931
  have q2 := quo_walk (MixMath.mm MixMath.F2 (MixMath.sx 27 (MixMath.mm MixMath.F1 (MixMath.sx 30 x)))) 2147483648 (MixMath.mm_lt _ _)
  have e := MixMath.sx_walk (MixMath.mm MixMath.F2 (MixMath.sx 27 (MixMath.mm MixMath.F1 (MixMath.sx 30 x)))) 31 2147483648 (by decide) (MixMath.mm_lt _ _)
  simp only [Int.cast_ofNat_Int, MixMath.F1, MixMath.F2] at a b c d e q1 q2
  rw [a, b, q1, c, d, q2, e]
  rfl
end Go.Proofs.Ytcfejbhoeichnaa
