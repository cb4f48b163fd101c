/- The contract of the program's pond.Check. -/
import Derived.Test.YtoijeafhohcbdaaShapes
import Derived.Test.YtoijeafhohcbdaaBase
import Derived.WalkKit
namespace Go.Proofs.Ytoijeafhohcbdaa
open Go.ChangeShapes Go.WideShapes Go.ChangeAt Go.RowKit

/-- what Check answers: the items' number n alone counts -/
def pondE (K S : Int) (n : Nat) : Int := if K < 1 ∨ 16 < K ∨ S < 0 ∨ 1000000000000 < S then 1 else if (n : Int) = min K S then 0 else 7
def pondV (K S : Int) (a : Option Addr) (len cap : Nat) : Value := .agg #[.int .i64 K, .int .i64 S, .slice a len cap]

set_option maxRecDepth 100000 in
set_option maxHeartbeats 1000000 in
theorem pcheck_any (K S : Int) (a : Option Addr) (len cap : Nat) (w : World) :
    Calls Try.prog 66 #[pondV K S a len cap] w fun e w' => e = .returned (.int .i64 (pondE K S len)) ∧ Below w.heap.size w w' := by
  unfold pondV
  have hb : Below w.heap.size w (w.alloc (.cells #[.int .i64 K, .int .i64 S, .slice a len cap] 71)) := (Below.refl _ _).alloc (Nat.le_refl _) _
  have HB := Lib.hid hb
  clear hb
  by_cases h1 : K < 1
  · have E : pondE K S len = 1 := if_pos (Or.inl h1)
    rw [E]
    clear E
    go_enter Try.func66, Try.ntmps66
    go_wp2
    go_ret
    exact ⟨rfl, HB.out⟩
  by_cases h2 : 16 < K
  · have E : pondE K S len = 1 := if_pos (Or.inr (Or.inl h2))
    rw [E]
    clear E
    go_enter Try.func66, Try.ntmps66
    go_wp2
    go_ret
    exact ⟨rfl, HB.out⟩
  have h1' : 1 ≤ K := by omega
  have h2' : K ≤ 16 := by omega
  clear h1 h2
  by_cases h3 : S < 0
  · have E : pondE K S len = 1 := if_pos (Or.inr (Or.inr (Or.inl h3)))
    rw [E]
    clear E
    go_enter Try.func66, Try.ntmps66
    go_wp2
    go_ret
    exact ⟨rfl, HB.out⟩
  have h3' : 0 ≤ S := by omega
  clear h3
  by_cases h4 : 1000000000000 < S
  · have E : pondE K S len = 1 := if_pos (Or.inr (Or.inr (Or.inr h4)))
    rw [E]
    clear E
    go_enter Try.func66, Try.ntmps66
    go_wp2
    go_ret
    exact ⟨rfl, HB.out⟩
  have h4' : S ≤ 1000000000000 := by omega
  clear h4
  have E : pondE K S len = if (len : Int) = min K S then 0 else 7 := if_neg (by omega)
  rw [E]
  clear E
  by_cases hSK : S < K
  · rw [show min K S = S from by omega]
    by_cases h5 : (len : Int) = S
    · rw [if_pos h5]
      have t : ((len : Int) != S) = false := by simpa using h5
      clear h5
      go_enter Try.func66, Try.ntmps66
      go_wp2
      go_ret
      exact ⟨rfl, HB.out⟩
    · rw [if_neg h5]
      have t : ((len : Int) != S) = true := by simpa using h5
      clear h5
      go_enter Try.func66, Try.ntmps66
      go_wp2
      go_ret
      exact ⟨rfl, HB.out⟩
  · have hKS : K ≤ S := by omega
    clear hSK
    rw [show min K S = K from by omega]
    by_cases h5 : (len : Int) = K
    · rw [if_pos h5]
      have t : ((len : Int) != K) = false := by simpa using h5
      clear h5
      go_enter Try.func66, Try.ntmps66
      go_wp2
      go_ret
      exact ⟨rfl, HB.out⟩
    · rw [if_neg h5]
      have t : ((len : Int) != K) = true := by simpa using h5
      clear h5
      go_enter Try.func66, Try.ntmps66
      go_wp2
      go_ret
      exact ⟨rfl, HB.out⟩
end Go.Proofs.Ytoijeafhohcbdaa
