/- Texts joined: Base, RefGateMath, DigitFact. -/
import Derived.Test.YtffgoekdjcempabRows
import Derived.WalkKit
import Derived.ProofKit
import Derived.Below
import Derived.OpenShut
import Derived.WalkLawsBesides
import Derived.WalkSpells
import Derived.Laws.Bits64
import Derived.Outline
import Derived.Lib.Hide
import Derived.Test.YtffgoekdjcempabDigitMath
import Derived.Deep.LoopGhost
/- Small lemmas that every walk of ours uses. -/
namespace Go.Proofs.Ytffgoekdjcempab
open Go.ChangeShapes Go.WideShapes Go.ChangeAt Go.RowKit

theorem below_on {w a b : World} (h : Below w.heap.size w a) (k : Below a.heap.size a b) : Below w.heap.size w b := h.trans (k.mono h.size)
theorem ret_int {k : IntKind} {a b : Int} (h : a = b) : Ending.returned (.int k a) = .returned (.int k b) := by rw [h]
theorem wf_i64 {a : Int} (h : (Lit.int .i64 a).wf = true) : -9223372036854775808 ≤ a ∧ a ≤ 9223372036854775807 := by
  have b := bounds_i64 h
  omega

end Go.Proofs.Ytffgoekdjcempab

/- Arithmetic of the document's own answers on gates: least and greatest factors, found bit by bit. -/
namespace Go.Proofs.Ytffgoekdjcempab
open Go.ChangeShapes Go.WideShapes Go.ChangeAt Go.RowKit

theorem ret_bool {a b : Bool} (h : a = b) : Ending.returned (.bool a) = .returned (.bool b) := by rw [h]
theorem ret_int2 {k j : IntKind} {a b : Int} {c : Int} (h : a = b) : Ending.returned (.tuple #[.int k a, .int j c]) = .returned (.tuple #[.int k b, .int j c]) := by rw [h]
def two56 : Nat := 72057594037927936
theorem two56_val : two56 = 72057594037927936 := rfl
/-- the least number that, times den, is at least 2^56 times num -/
def fewOf (num den : Nat) : Nat := (two56 * num + (den - 1)) / den
theorem fewOf_iff (num den : Nat) (hd : 0 < den) (m : Nat) : m * den < two56 * num ↔ m < fewOf num den := by
  unfold fewOf
  have h := @Nat.le_div_iff_mul_le den (m + 1) (two56 * num + (den - 1)) hd
  rw [Nat.succ_mul] at h
  generalize two56 * num = t at *
  generalize m * den = p at *
  generalize (t + (den - 1)) / den = q at *
  omega
theorem fewOf_le (num den : Nat) (hd : 0 < den) (h : num ≤ den) : fewOf num den ≤ two56 := by
  have := fewOf_iff num den hd two56
  have h2 : two56 * num ≤ two56 * den := Nat.mul_le_mul_left _ h
  omega
theorem fewOf_pos (num den : Nat) (hd : 0 < den) (h : 0 < num) : 0 < fewOf num den := by
  rw [← fewOf_iff num den hd 0, Nat.zero_mul]
  exact Nat.mul_pos (by decide) h
/-- so many stand behind n of whom 2^56 less th were kept -/
def manyOf (n th : Nat) : Nat := two56 * n / (two56 - th)
theorem manyOf_iff (n th : Nat) (h : th < two56) (m : Nat) : two56 * n < m * (two56 - th) ↔ manyOf n th < m := by
  unfold manyOf
  exact (Nat.div_lt_iff_lt_mul (by omega)).symm

/-- of all draws so many are kept at a level -/
def keptAt (k : Nat) : Nat := 2 ^ (56 - k)
theorem keptAt_div (n : Nat) (h : n ≤ 56) : 72057594037927936 / 2 ^ n = keptAt n := by
  show 2 ^ 56 / 2 ^ n = 2 ^ (56 - n)
  exact Nat.pow_div h (by decide)
theorem keptAt_zero : keptAt 0 = 72057594037927936 := rfl
theorem keptAt_succ (k : Nat) (h : k < 56) : keptAt k = 2 * keptAt (k + 1) := by
  unfold keptAt
  rw [← Nat.pow_succ']
  congr 1
  omega
theorem keptAt_le (k : Nat) : keptAt k ≤ 72057594037927936 := Nat.pow_le_pow_right (n := 2) (i := 56 - k) (j := 56) (by decide) (by omega)
theorem keptAt_pos (k : Nat) : 0 < keptAt k := Nat.pow_pos (by decide)
theorem level_walk (n : Nat) (h : n ≤ 20) : wrap64 (72057594037927936 - 72057594037927936 / 2 ^ n) = ((two56 - keptAt n : Nat) : Int) := by
  have e : (72057594037927936 : Int) / 2 ^ n = ((keptAt n : Nat) : Int) := by
    rw [← keptAt_div n (by omega), Int.natCast_ediv, Int.natCast_pow]
    rfl
  have hp := keptAt_le n
  rw [e, two56_val]
  generalize keptAt n = k at *
  unfold wrap64
  omega

theorem pow64 (j : Nat) (hj : j ≤ 62) : wrap64 ((2 : Int) ^ j) = ((2 ^ j : Nat) : Int) := by
  have hp0 : 2 ^ j ≤ 2 ^ 62 := Nat.pow_le_pow_right (by decide) hj
  have e : ((2 ^ j : Nat) : Int) = (2 : Int) ^ j := by rw [Int.natCast_pow]; rfl
  rw [← e]
  generalize 2 ^ j = p at *
  unfold wrap64
  omega

/-- two products of 64 bits each, by their halves -/
theorem halves (p q : Nat) (M : Nat) (hM : 0 < M) : (decide (p / M < q / M) || (decide (p / M = q / M) && decide (p % M < q % M))) = decide (p < q) := by
  have hp := Nat.div_add_mod p M
  have hq := Nat.div_add_mod q M
  have h1 := Nat.mod_lt p hM
  have h2 := Nat.mod_lt q hM
  generalize p / M = a at *
  generalize q / M = b at *
  generalize p % M = c at *
  generalize q % M = d at *
  rcases Nat.lt_trichotomy a b with h | h | h
  · have : M * (a + 1) ≤ M * b := Nat.mul_le_mul_left _ h
    rw [Nat.mul_succ] at this
    simp [h]; omega
  · subst h; simp; omega
  · have : M * (b + 1) ≤ M * a := Nat.mul_le_mul_left _ h
    rw [Nat.mul_succ] at this
    have e1 : ¬ a < b := by omega
    have e2 : ¬ a = b := by omega
    simp [e1, e2]; omega

end Go.Proofs.Ytffgoekdjcempab

/- The contract of the program's digit.factorial. -/
namespace Go.Proofs.Ytffgoekdjcempab
open Go.ChangeShapes Go.WideShapes Go.ChangeAt Go.RowKit
open Digit

set_option maxRecDepth 100000 in
set_option maxHeartbeats 1000000 in
theorem factorial_any (n : Nat) (hn : n ≤ 12) (w : World) :
    Calls Try.prog 78 #[.int .i64 n] w fun e w' => e = .returned (.int .i64 (fact n : Nat)) ∧ w = w' := by
  go_enter Try.func78, Try.ntmps78
  go_wp2
  go_loopg [3, 4] (n - 1) (fun g z i wr => wr = w ∧ ∃ k : Nat, k + g = n - 1 ∧ i = .int .i64 ((k : Int) + 2) ∧ z = .int .i64 (fact (k + 1) : Nat))
  case atStart => exact ⟨rfl, 0, by omega, by go_num, rfl⟩
  case round =>
    obtain ⟨rfl, k, hk0, rfl, rfl⟩ := hrel
    have HJ := Lib.hid hk0
    have hk : k ≤ n - 1 := by omega
    clear hk0
    have hq : fact (k + 1) ≤ 479001600 := fact_max (by omega)
    by_cases hlt : k < n - 1
    · have hq2 : fact (k + 2) ≤ 479001600 := fact_max (by omega)
      have e1 : (fact (k + 1) : Int) * ((k : Int) + 2) = (fact (k + 2) : Int) := by
        rw [show fact (k + 2) = (k + 2) * fact (k + 1) from rfl, Int.natCast_mul, Int.mul_comm]
        rfl
      generalize hF0 : fact (k + 2) = q at *
      have hF : Hid (fact (k + 1 + 1) = q) := Lib.hid hF0
      clear hF0
      generalize fact (k + 1) = p at *
      have t1 : (k : Int) + 2 ≤ n := by omega
      go_wp2
      go_roundg (n - 1 - (k + 1))
      case measure => have := HJ.out; omega
      case rel => exact ⟨rfl, k + 1, by omega, by go_num, by rw [hF.out]⟩
    · have HF : Hid (fact (k + 1) = fact n) := by
        rcases Nat.eq_zero_or_pos n with h | h
        · subst h
          obtain rfl : k = 0 := by omega
          exact Lib.hid rfl
        · rw [show k + 1 = n from by omega]; exact Lib.hid rfl
      generalize fact (k + 1) = p at *
      have t1 : (n : Int) < (k : Int) + 2 := by omega
      go_wp2
      go_ret
      exact ⟨ret_int (by rw [HF.out]), rfl⟩

end Go.Proofs.Ytffgoekdjcempab
