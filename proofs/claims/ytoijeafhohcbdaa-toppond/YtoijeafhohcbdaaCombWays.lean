/- Contracts of the program's comb.choose, comb.Ways and comb.last. -/
import Derived.Test.YtoijeafhohcbdaaBase
import Derived.Test.YtoijeafhohcbdaaBinomMath
import Derived.Deep.LoopGhost
namespace Go.Proofs.Ytoijeafhohcbdaa
open Go.ChangeShapes Go.WideShapes Go.ChangeAt Go.RowKit
open Binom

theorem step_bound (n j : Nat) (hn : n ≤ 30) (hj : j ≤ 30) : -32212254720 ≤ (binom n j : Int) * ((n : Int) - j) ∧ (binom n j : Int) * ((n : Int) - j) ≤ 32212254720 := by
  have h := le_max j hn
  have h1 : (binom n j : Int) ≤ 1073741824 := by omega
  have h0 : 0 ≤ (binom n j : Int) := by omega
  generalize (binom n j : Int) = b at *
  have e1 : b * ((n : Int) - j) ≤ b * 30 := Int.mul_le_mul_of_nonneg_left (by omega) h0
  have e2 : b * (-30) ≤ b * ((n : Int) - j) := Int.mul_le_mul_of_nonneg_left (by omega) h0
  omega

set_option maxRecDepth 100000 in
set_option maxHeartbeats 1000000 in
theorem choose_any (n k : Nat) (hn : n ≤ 30) (hk : k ≤ 30) (w : World) :
    Calls Try.prog 65 #[.int .i64 n, .int .i64 k] w fun e w' => e = .returned (.int .i64 (binom n k : Nat)) ∧ w = w' := by
  go_enter Try.func65, Try.ntmps65
  go_wp2
  go_loop [5, 8] (fun z i => ∃ j : Nat, j ≤ k ∧ i = .int .i64 j ∧ z = .int .i64 (binom n j : Nat)) (fun _ i => k - (intOf i).toNat)
  case atStart => exact ⟨0, Nat.zero_le _, rfl, by rw [zero_right]; rfl⟩
  case round =>
    obtain ⟨j, hj, rfl, rfl⟩ := hrel
    have hb := step_bound n j hn (by omega)
    have hs := step_int n j
    have h1 := le_max (j + 1) hn
    have h2 := le_max j hn
    generalize hg : binom n (j + 1) = q at *
    have HG := Lib.hid hg
    clear hg
    generalize hg2 : binom n j = b at *
    have HG2 := Lib.hid hg2
    clear hg2
    by_cases hlt : j < k
    · obtain ⟨p, hp⟩ : ∃ p, (b : Int) * ((n : Int) - j) = p := ⟨_, rfl⟩
      rw [hp] at hb hs
      go_wp2
      go_round
      case rel => exact ⟨j + 1, by omega, by go_num, by rw [HG.out]⟩
      case measure => simp [intOf]; omega
    · obtain rfl : j = k := by omega
      clear hs hb
      go_wp2
      go_ret
      exact ⟨ret_int (by rw [HG2.out]), rfl⟩

theorem ret_int_two {k m : IntKind} {a b c d : Int} (h : a = b) (g : c = d) : Ending.returned (.tuple #[.int k a, .int m c]) = .returned (.tuple #[.int k b, .int m d]) := by rw [h, g]
set_option maxRecDepth 100000 in
set_option maxHeartbeats 1000000 in
theorem ways_ok (n k : Nat) (hn : n ≤ 30) (hk : k ≤ n) (w : World) :
    Calls Try.prog 42 #[.int .i64 n, .int .i64 k] w fun e w' => e = .returned (.tuple #[.int .i64 (binom n k : Nat), .int .i64 0]) ∧ w = w' := by
  have C := Lib.hid (choose_any n k hn (by omega))
  go_enter Try.func42, Try.ntmps42
  go_wp2_with fail
  refine (C.out _).mono ?_
  rintro e w1 ⟨rfl, rfl⟩
  go_wp2
  go_ret2
  exact ⟨rfl, rfl⟩
set_option maxRecDepth 100000 in
set_option maxHeartbeats 1000000 in
theorem ways_bad (n k : Int) (h : (n < 0 ∨ 30 < n) ∨ (k < 0 ∨ n < k)) (w : World) :
    Calls Try.prog 42 #[.int .i64 n, .int .i64 k] w fun e w' => e = .returned (.tuple #[.int .i64 0, .int .i64 1]) ∧ w = w' := by
  by_cases h1 : n < 0
  · clear h
    go_enter Try.func42, Try.ntmps42
    go_wp2
    go_ret2
    exact ⟨rfl, rfl⟩
  · by_cases h2 : 30 < n
    · clear h
      go_enter Try.func42, Try.ntmps42
      go_wp2
      go_ret2
      exact ⟨rfl, rfl⟩
    · by_cases h3 : k < 0
      · clear h
        go_enter Try.func42, Try.ntmps42
        go_wp2
        go_ret2
        exact ⟨rfl, rfl⟩
      · have h4 : n < k := by omega
        clear h
        go_enter Try.func42, Try.ntmps42
        go_wp2
        go_ret2
        exact ⟨rfl, rfl⟩

end Go.Proofs.Ytoijeafhohcbdaa
