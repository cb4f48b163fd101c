/- Plain facts on undoing a xor with a shift bit by bit, and on powers modulo 2^64. No Go in sight. -/
import Derived.Test.YtmaflidkejapoaaMixMath
namespace Go.Proofs.Ytmaflidkejapoaa.MixMath

theorem bits_and_u64_nat (a b : Nat) (ha : a < 18446744073709551616) (hb : b < 18446744073709551616) :
    bits .and .u64 (a : Int) (b : Int) = ((a &&& b : Nat) : Int) := by
  have hx : a &&& b < 2 ^ 64 := Nat.lt_of_le_of_lt Nat.and_le_left (by omega)
  have h1 : (BitVec.ofInt 64 (a : Int)).toNat = a := by
    rw [BitVec.ofInt_natCast, BitVec.toNat_ofNat]; exact Nat.mod_eq_of_lt (by omega)
  have h2 : (BitVec.ofInt 64 (b : Int)).toNat = b := by
    rw [BitVec.ofInt_natCast, BitVec.toNat_ofNat]; exact Nat.mod_eq_of_lt (by omega)
  show IntKind.u64.wrap ((BitVec.ofInt 64 (a : Int) &&& BitVec.ofInt 64 (b : Int)).toNat : Int) = _
  rw [BitVec.toNat_and, h1, h2, IntKind.wrap_u64]
  omega
theorem bits_or_u64_nat (a b : Nat) (ha : a < 18446744073709551616) (hb : b < 18446744073709551616) :
    bits .or .u64 (a : Int) (b : Int) = ((a ||| b : Nat) : Int) := by
  have hx : a ||| b < 2 ^ 64 := Nat.or_lt_two_pow (by omega) (by omega)
  have h1 : (BitVec.ofInt 64 (a : Int)).toNat = a := by
    rw [BitVec.ofInt_natCast, BitVec.toNat_ofNat]; exact Nat.mod_eq_of_lt (by omega)
  have h2 : (BitVec.ofInt 64 (b : Int)).toNat = b := by
    rw [BitVec.ofInt_natCast, BitVec.toNat_ofNat]; exact Nat.mod_eq_of_lt (by omega)
  show IntKind.u64.wrap ((BitVec.ofInt 64 (a : Int) ||| BitVec.ofInt 64 (b : Int)).toNat : Int) = _
  rw [BitVec.toNat_or, h1, h2, IntKind.wrap_u64]
  omega

/-- one bit, as a number -/
def bit (r i : Nat) : Nat := r >>> i &&& 1
theorem bit_le (r i : Nat) : bit r i ≤ 1 := Nat.and_le_right
theorem one_bit (m : Nat) : (1 : Nat).testBit m = decide (m = 0) := by
  cases m with
  | zero => rfl
  | succ m => rw [Nat.testBit_succ]; simp
theorem bit_test (r i m : Nat) : (bit r i).testBit m = (r.testBit (i + m) && decide (m = 0)) := by
  unfold bit
  rw [Nat.testBit_and, Nat.testBit_shiftRight, one_bit]
theorem top_test (r j k : Nat) : (top r j).testBit k = (decide (j ≤ k) && r.testBit k) := by
  unfold top
  rw [Nat.testBit_shiftLeft, Nat.testBit_shiftRight]
  by_cases h : j ≤ k
  · simp [h, show j + (k - j) = k from by omega]
  · simp [h]
theorem top_step (r j : Nat) : top r (j + 1) ||| bit r j <<< j = top r j := by
  apply Nat.eq_of_testBit_eq
  intro k
  rw [Nat.testBit_or, top_test, top_test, Nat.testBit_shiftLeft, bit_test]
  by_cases h : j + 1 ≤ k
  · simp [h, show j ≤ k from by omega, show ¬ k - j = 0 from by omega]
  · by_cases e : j = k
    · subst e; simp
    · simp [h, show ¬ j ≤ k from by omega]
theorem bit_top (r j i : Nat) (h : j ≤ i) : top r j >>> i &&& 1 = bit r i := by
  apply Nat.eq_of_testBit_eq
  intro m
  rw [bit_test, Nat.testBit_and, Nat.testBit_shiftRight, top_test, one_bit]
  simp [show j ≤ i + m from by omega]
theorem bit_sx (r n j : Nat) : bit (sx n r) j = bit r j ^^^ bit r (j + n) := by
  apply Nat.eq_of_testBit_eq
  intro m
  rw [Nat.testBit_xor, bit_test, bit_test, bit_test]
  unfold sx
  rw [Nat.testBit_xor, Nat.testBit_shiftRight, show n + (j + m) = j + n + m from by omega]
  cases r.testBit (j + m) <;> cases r.testBit (j + n + m) <;> cases decide (m = 0) <;> rfl
theorem bit_high (r i : Nat) (h : r < M) (hi : 64 ≤ i) : bit r i = 0 := by
  unfold bit
  rw [shift_zero i r h hi]; rfl

theorem div_pow (y j : Nat) : (y : Int) / 2 ^ j = ((y >>> j : Nat) : Int) := by
  rw [Nat.shiftRight_eq_div_pow]
  norm_cast
theorem and_one (y j : Nat) (h : y < M) : bits .and .u64 ((y : Int) / 2 ^ j) 1 = ((y >>> j &&& 1 : Nat) : Int) := by
  rw [div_pow]
  exact bits_and_u64_nat _ 1 (Nat.lt_of_le_of_lt (Nat.shiftRight_le _ _) h) (by decide)
theorem shl_one (b j : Nat) (hb : b ≤ 1) (hj : j ≤ 63) : IntKind.u64.wrap ((b : Int) * 2 ^ j) = ((b <<< j : Nat) : Int) ∧ b <<< j < 18446744073709551616 := by
  have h1 : b <<< j < 18446744073709551616 := by
    rw [Nat.shiftLeft_eq]
    exact Nat.lt_of_le_of_lt (Nat.mul_le_mul hb (Nat.pow_le_pow_right (by decide) hj)) (by decide)
  refine ⟨?_, h1⟩
  have e : (b : Int) * 2 ^ j = ((b <<< j : Nat) : Int) := by rw [Nat.shiftLeft_eq]; norm_cast
  rw [e, IntKind.wrap_u64]
  generalize b <<< j = z at *
  omega
theorem or_step (r j : Nat) (h : r < M) (hj : j ≤ 63) : bits .or .u64 ((top r (j + 1) : Nat) : Int) (IntKind.u64.wrap ((bit r j : Int) * 2 ^ j)) = ((top r j : Nat) : Int) := by
  have s := shl_one (bit r j) j (bit_le _ _) hj
  rw [s.1, bits_or_u64_nat _ _ (top_lt _ _ h) s.2, top_step]
theorem back_in (y n j : Nat) (h : y < M) (hn : 22 ≤ n) (hj : j + n < 64) :
    bits .or .u64 ((top (ux n y) (j + 1) : Nat) : Int) (IntKind.u64.wrap (bits .xor .u64 (bits .and .u64 ((y : Int) / 2 ^ j) 1) (bits .and .u64 (((top (ux n y) (j + 1) : Nat) : Int) / 2 ^ (j + n)) 1) * 2 ^ j)) = ((top (ux n y) j : Nat) : Int) := by
  have hr := ux_lt n y h
  have e := sx_ux n y h (by omega)
  have b1 : y >>> j &&& 1 = bit (ux n y) j ^^^ bit (ux n y) (j + n) := by
    rw [← bit_sx, e]; rfl
  rw [and_one y j h, and_one _ (j + n) (top_lt _ _ hr), bit_top _ _ _ (by omega), b1]
  have l1 : ∀ i, bit (ux n y) i < 18446744073709551616 := fun i => Nat.lt_of_le_of_lt (bit_le _ _) (by decide)
  rw [bits_xor_u64_nat _ _ (Nat.xor_lt_two_pow (n := 64) (l1 _) (l1 _)) (l1 _), Nat.xor_assoc, Nat.xor_self, Nat.xor_zero]
  exact or_step _ _ hr (by omega)
theorem back_out (y n j : Nat) (h : y < M) (hn : 22 ≤ n) (hj : 64 ≤ j + n) (hj' : j ≤ 63) :
    bits .or .u64 ((top (ux n y) (j + 1) : Nat) : Int) (IntKind.u64.wrap (bits .and .u64 ((y : Int) / 2 ^ j) 1 * 2 ^ j)) = ((top (ux n y) j : Nat) : Int) := by
  have hr := ux_lt n y h
  have e := sx_ux n y h (by omega)
  have b1 : y >>> j &&& 1 = bit (ux n y) j := by
    have := bit_sx (ux n y) n j
    rw [bit_high _ (j + n) hr hj, Nat.xor_zero, e] at this
    exact this
  rw [and_one y j h, b1]
  exact or_step _ _ hr hj'
theorem top_zero (r : Nat) : top r 0 = r := rfl
theorem top_all (r : Nat) (h : r < M) : top r 64 = 0 := by
  unfold top
  rw [shift_zero 64 r h (by decide)]; rfl

/-! ### powers -/
def pow : Nat → Nat → Nat → Nat
  | 0, _, _ => 1
  | f + 1, a, n => if n = 0 then 1 else if n % 2 = 1 then mm a (pow f (mm a a) (n / 2)) else pow f (mm a a) (n / 2)
theorem pow_lt (f a n : Nat) (hf : pow f a n < M) : pow f a n < M := hf
theorem pow_bound (f a n : Nat) : pow f a n < M := by
  induction f generalizing a n with
  | zero => show 1 < M; decide
  | succ f ih =>
    rw [pow]
    by_cases h0 : n = 0
    · rw [if_pos h0]; decide
    · rw [if_neg h0]
      by_cases h1 : n % 2 = 1
      · rw [if_pos h1]; exact mm_lt _ _
      · rw [if_neg h1]; exact ih _ _
theorem pow_F2 : pow 63 F2 4611686018427387903 = I2 := by decide +kernel
theorem pow_F1 : pow 63 F1 4611686018427387903 = I1 := by decide +kernel

end Go.Proofs.Ytmaflidkejapoaa.MixMath
