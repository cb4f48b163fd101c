/- The contract of the document's own levels (culref.Level). -/
import Derived.Test.YtfgcmlgdgmcffaaRefGateMath
namespace Go.Proofs.Ytfgcmlgdgmcffaa
open Go.ChangeShapes Go.WideShapes Go.ChangeAt Go.RowKit

set_option maxRecDepth 100000 in
set_option maxHeartbeats 1000000 in
theorem refLevel_any (n : Nat) (hn : n ≤ 20) (w : World) :
    Calls Try.prog 49 #[.int .i64 n] w fun e w' => e = .returned (.int .i64 ((two56 - keptAt n : Nat) : Int)) ∧ w = w' := by
  go_enter Try.func49, Try.ntmps49
  go_wp2
  go_loop [3, 5] (fun z i => ∃ k : Nat, k ≤ n ∧ i = .int .i64 k ∧ z = .int .i64 (keptAt k : Nat)) (fun _ i => n - (intOf i).toNat)
  case atStart => exact ⟨0, Nat.zero_le _, rfl, by rw [keptAt_zero]; rfl⟩
  case round =>
    obtain ⟨k, hk, rfl, rfl⟩ := hrel
    have hp := keptAt_le k
    by_cases hlt : k < n
    · rw [keptAt_succ k (by omega)] at hp ⊢
      generalize hg : keptAt (k + 1) = p at *
      have HG := Lib.hid hg
      clear hg
      go_wp2
      go_round
      case rel => exact ⟨k + 1, by omega, by go_num, by rw [HG.out]⟩
      case measure => simp [intOf]; omega
    · obtain rfl : k = n := by omega
      generalize hg : keptAt k = p at *
      have HG := Lib.hid hg
      clear hg
      go_wp2
      go_ret
      exact ⟨ret_int (by rw [HG.out, two56_val]; omega), rfl⟩
end Go.Proofs.Ytfgcmlgdgmcffaa
