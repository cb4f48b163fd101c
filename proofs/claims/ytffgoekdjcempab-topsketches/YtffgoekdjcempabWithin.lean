/- Contract of the laws' own helper Within: a number below n, made of any number. -/
import Derived.Test.YtffgoekdjcempabGr1
namespace Go.Proofs.Ytffgoekdjcempab
open Go.ChangeShapes Go.WideShapes Go.ChangeAt Go.RowKit

/-- int(uint64(k) % uint64(n)) -/
def withI (k n : Int) : Int := (k % 18446744073709551616) % n
theorem withI_bd (k n : Int) (h : 1 ≤ n) : 0 ≤ withI k n ∧ withI k n < n :=
  ⟨Int.emod_nonneg _ (by omega), Int.emod_lt_of_pos _ (by omega)⟩

theorem within_walk (k n : Int) (h1 : 1 ≤ n) (h2 : n ≤ 9223372036854775807) : wrap64 ((IntKind.u64.wrap k).tmod n) = withI k n := by
  have b := withI_bd k n h1
  rw [IntKind.wrap_u64, Int.tmod_eq_emod_of_nonneg (Int.emod_nonneg _ (by decide))]
  show wrap64 (withI k n) = withI k n
  unfold wrap64
  omega

set_option maxHeartbeats 400000 in
theorem within_int (k n : Int) (w : World) (hk : -9223372036854775808 ≤ k ∧ k ≤ 9223372036854775807) (h1 : 1 ≤ n) (h2 : n ≤ 9223372036854775807) :
    Calls Try.prog 31 #[.int .i64 k, .int .i64 n] w fun e w' => e = .returned (.int .i64 (withI k n)) ∧ w = w' := by
  go_enter Try.func31, Try.ntmps31
  go_wp2
  go_ret
  exact ⟨ret_int (within_walk k n h1 h2), rfl⟩

end Go.Proofs.Ytffgoekdjcempab
