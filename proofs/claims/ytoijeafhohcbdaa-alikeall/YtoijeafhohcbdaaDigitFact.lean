/- The contract of the program's digit.factorial. -/
import Derived.Test.YtoijeafhohcbdaaDigitMath
import Derived.Test.YtoijeafhohcbdaaRefGateMath
import Derived.Deep.LoopGhost
namespace Go.Proofs.Ytoijeafhohcbdaa
open Go.ChangeShapes Go.WideShapes Go.ChangeAt Go.RowKit
open Digit

set_option maxRecDepth 100000 in
set_option maxHeartbeats 1000000 in
theorem factorial_any (n : Nat) (hn : n ≤ 12) (w : World) :
    Calls Try.prog 55 #[.int .i64 n] w fun e w' => e = .returned (.int .i64 (fact n : Nat)) ∧ w = w' := by
  go_enter Try.func55, Try.ntmps55
  go_wp2
  go_loopg [3, 4] (n - 1) (fun g z i wr => wr = w ∧ ∃ k : Nat, k + g = n - 1 ∧ i = .int .i64 ((k : Int) + 2) ∧ z = .int .i64 (fact (k + 1) : Nat))
  case atStart => exact ⟨rfl, 0, by omega, by go_num, rfl⟩
  case round =>
    obtain ⟨rfl, k, hk0, rfl, rfl⟩ := hrel
    have HJ := Lib.hid hk0
    have hk : k ≤ n - 1 := by omega
    clear hk0
    have hq : fact (k + 1) ≤ 479001600 := fact_max (by omega)
    by_cases hlt : k < n - 1
    · have hq2 : fact (k + 2) ≤ 479001600 := fact_max (by omega)
      have e1 : (fact (k + 1) : Int) * ((k : Int) + 2) = (fact (k + 2) : Int) := by
        rw [show fact (k + 2) = (k + 2) * fact (k + 1) from rfl, Int.natCast_mul, Int.mul_comm]
        rfl
      generalize hF0 : fact (k + 2) = q at *
      have hF : Hid (fact (k + 1 + 1) = q) := Lib.hid hF0
      clear hF0
      generalize fact (k + 1) = p at *
      have t1 : (k : Int) + 2 ≤ n := by omega
      go_wp2
      go_roundg (n - 1 - (k + 1))
      case measure => have := HJ.out; omega
      case rel => exact ⟨rfl, k + 1, by omega, by go_num, by rw [hF.out]⟩
    · have HF : Hid (fact (k + 1) = fact n) := by
        rcases Nat.eq_zero_or_pos n with h | h
        · subst h
          obtain rfl : k = 0 := by omega
          exact Lib.hid rfl
        · rw [show k + 1 = n from by omega]; exact Lib.hid rfl
      generalize fact (k + 1) = p at *
      have t1 : (n : Int) < (k : Int) + 2 := by omega
      go_wp2
      go_ret
      exact ⟨ret_int (by rw [HF.out]), rfl⟩

end Go.Proofs.Ytoijeafhohcbdaa
