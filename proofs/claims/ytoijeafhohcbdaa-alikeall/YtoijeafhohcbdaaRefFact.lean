/- The contract of the document's own number of orders (culref.Fact). -/
import Derived.Test.YtoijeafhohcbdaaBase
import Derived.Test.YtoijeafhohcbdaaDigitMath
namespace Go.Proofs.Ytoijeafhohcbdaa
open Go.ChangeShapes Go.WideShapes Go.ChangeAt Go.RowKit
open Digit

set_option maxRecDepth 100000 in
set_option maxHeartbeats 1000000 in
theorem refFact_any : ∀ (n : Nat), n ≤ 12 → ∀ (w : World), Calls Try.prog 28 #[.int .i64 n] w fun e w' => e = .returned (.int .i64 (fact n : Nat)) ∧ w' = w
  | 0, _, w => by
    go_enter Try.func28, Try.ntmps28
    go_wp2
    go_ret
    exact ⟨rfl, rfl⟩
  | n + 1, hn, w => by
    have IH := Lib.hid (refFact_any n (by omega))
    have h1 := fact_max hn
    have h2 : fact n ≤ 479001600 := fact_max (by omega)
    have e1 : ((n + 1 : Nat) : Int) * (fact n : Int) = (fact (n + 1) : Int) := by rw [fact, Int.natCast_mul]
    have e2 : ((n + 1 : Nat) : Int) - 1 = (n : Int) := by omega
    have t1 : (((n + 1 : Nat) : Int) == 0) = false := by rw [beq_eq_false_iff_ne]; omega
    generalize fact (n + 1) = q at *
    generalize fact n = p at *
    generalize hm : n + 1 = m at *
    have hm2 : m ≤ 12 := by omega
    clear hm
    go_enter Try.func28, Try.ntmps28
    go_wp2_with fail
    refine (IH.out _).mono ?_
    rintro e w1 ⟨rfl, rfl⟩
    go_wp2
    go_ret
    exact ⟨rfl, rfl⟩

end Go.Proofs.Ytoijeafhohcbdaa
