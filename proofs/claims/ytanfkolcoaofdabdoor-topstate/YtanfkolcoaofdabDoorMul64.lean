/- The contract of math/bits.Mul64, by its halves. -/
import Derived.Test.YtanfkolcoaofdabDoorBase
import Derived.Test.YtanfkolcoaofdabDoorShelf
namespace Go.Proofs.YtanfkolcoaofdabDoor
open Go.ChangeShapes Go.WideShapes Go.ChangeAt Go.RowKit

theorem mul64_parts (a b : Nat) (ha : a < 9223372036854775808) (hb : b < 9223372036854775808) (w : World) : ∃ hi lo : Nat, a * b = 18446744073709551616 * hi + lo ∧ lo < 18446744073709551616 ∧
    Calls Tryd.prog 39 #[.int .u64 a, .int .u64 b] w fun e w' => e = .returned (.tuple #[.int .u64 hi, .int .u64 lo]) ∧ w' = w :=
  ⟨_, _, (Nat.div_add_mod (a * b) 18446744073709551616).symm, Nat.mod_lt _ (by decide), bits_Mul64 a b (by omega) (by omega) w⟩

end Go.Proofs.YtanfkolcoaofdabDoor
