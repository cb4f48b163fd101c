/- Contract of the laws' own helper draw: a random value, made of any number. -/
import Derived.Test.YtffgoekdjcempaaWithin
namespace Go.Proofs.Ytffgoekdjcempaa
open Go.ChangeShapes Go.WideShapes Go.ChangeAt Go.RowKit

theorem draw_int (k : Int) (w : World) (hk : -9223372036854775808 ≤ k ∧ k ≤ 9223372036854775807) :
    Calls Try.prog 55 #[.int .i64 k] w fun e w' => e = .returned (.int .i64 (withI k 72057594037927936)) ∧ w = w' := by
  go_enter Try.func55, Try.ntmps55
  go_wp2_with fail
  refine (within_int _ _ _ hk (by omega) (by omega)).mono ?_
  rintro e w' ⟨rfl, rfl⟩
  go_wp2
  go_ret
  exact ⟨rfl, rfl⟩

end Go.Proofs.Ytffgoekdjcempaa
