/- Plain arithmetic of the mixing function on numbers below 2^64: each step and its inverse. No Go in sight. -/
import Derived.Laws.Bits64
namespace Go.Proofs.Ytffgoekdjcempab.MixMath

/-- the modulus, kept behind a name -/
def M : Nat := 18446744073709551616

theorem M_eq : M = 2 ^ 64 := by decide

def sx (k x : Nat) : Nat := x ^^^ (x >>> k)
def ux (k x : Nat) : Nat := x ^^^ (x >>> k ^^^ x >>> (2 * k))

theorem sx_lt (k x : Nat) (h : x < M) : sx k x < M := by
  rw [M_eq] at *
  exact Nat.xor_lt_two_pow h (Nat.lt_of_le_of_lt (Nat.shiftRight_le _ _) h)
theorem ux_lt (k x : Nat) (h : x < M) : ux k x < M := by
  rw [M_eq] at *
  exact Nat.xor_lt_two_pow h (Nat.xor_lt_two_pow (Nat.lt_of_le_of_lt (Nat.shiftRight_le _ _) h) (Nat.lt_of_le_of_lt (Nat.shiftRight_le _ _) h))

theorem shift_zero (k x : Nat) (h : x < M) (hk : 64 ≤ k) : x >>> k = 0 := by
  rw [Nat.shiftRight_eq_div_pow]
  apply Nat.div_eq_of_lt
  rw [M_eq] at h
  exact Nat.lt_of_lt_of_le h (Nat.pow_le_pow_right (by decide) hk)

theorem bxor4 (a b c : Bool) : ((a ^^ b) ^^ ((b ^^ c) ^^ (c ^^ false))) = a := by cases a <;> cases b <;> cases c <;> rfl
theorem bxor5 (a b c : Bool) : ((a ^^ (b ^^ c)) ^^ (b ^^ (c ^^ false))) = a := by cases a <;> cases b <;> cases c <;> rfl

theorem high_bit (x k i : Nat) (h : x < M) (hk : 64 ≤ k) : x.testBit (k + i) = false := by
  apply Nat.testBit_lt_two_pow
  rw [M_eq] at h
  exact Nat.lt_of_lt_of_le h (Nat.pow_le_pow_right (by decide) (by omega))

theorem ux_sx (k x : Nat) (h : x < M) (hk : 64 ≤ 3 * k) : ux k (sx k x) = x := by
  apply Nat.eq_of_testBit_eq
  intro i
  have h3 : x.testBit (k + (2 * k + i)) = false := by
    have := high_bit x (3 * k) i h hk
    rw [show k + (2 * k + i) = 3 * k + i from by omega]; exact this
  have e : x.testBit (k + (k + i)) = x.testBit (2 * k + i) := by rw [show k + (k + i) = 2 * k + i from by omega]
  simp only [ux, sx, Nat.testBit_xor, Nat.testBit_shiftRight, h3, e]
  exact bxor4 _ _ _
theorem sx_ux (k x : Nat) (h : x < M) (hk : 64 ≤ 3 * k) : sx k (ux k x) = x := by
  apply Nat.eq_of_testBit_eq
  intro i
  have h3 : x.testBit (2 * k + (k + i)) = false := by
    have := high_bit x (3 * k) i h hk
    rw [show 2 * k + (k + i) = 3 * k + i from by omega]; exact this
  have e : x.testBit (k + (k + i)) = x.testBit (2 * k + i) := by rw [show k + (k + i) = 2 * k + i from by omega]
  simp only [ux, sx, Nat.testBit_xor, Nat.testBit_shiftRight, h3, e]
  exact bxor5 _ _ _

def mm (c x : Nat) : Nat := x * c % M
theorem mm_lt (c x : Nat) : mm c x < M := Nat.mod_lt _ (by decide)
theorem mm_mm (c d x : Nat) (h : x < M) (hcd : c * d % M = 1) : mm d (mm c x) = x := by
  unfold mm
  rw [Nat.mod_mul_mod, Nat.mul_assoc, Nat.mul_mod, hcd, Nat.mul_one, Nat.mod_mod, Nat.mod_eq_of_lt h]

def F1 : Nat := 13787848793156543929
def F2 : Nat := 10723151780598845931
def I1 : Nat := 10871156337175269513
def I2 : Nat := 3573116690164977347

def mixN (x : Nat) : Nat := sx 31 (mm F2 (sx 27 (mm F1 (sx 30 x))))
def unmixN (x : Nat) : Nat := ux 30 (mm I1 (ux 27 (mm I2 (ux 31 x))))

theorem mixN_lt (x : Nat) : mixN x < M := sx_lt _ _ (mm_lt _ _)
theorem unmixN_lt (x : Nat) : unmixN x < M := ux_lt _ _ (mm_lt _ _)
theorem unmix_mix (x : Nat) (h : x < M) : unmixN (mixN x) = x := by
  unfold unmixN mixN
  rw [ux_sx 31 _ (mm_lt _ _) (by decide), mm_mm F2 I2 _ (sx_lt _ _ (mm_lt _ _)) (by decide +kernel), ux_sx 27 _ (mm_lt _ _) (by decide), mm_mm F1 I1 _ (sx_lt _ _ h) (by decide +kernel), ux_sx 30 _ h (by decide)]
theorem mix_unmix (x : Nat) (h : x < M) : mixN (unmixN x) = x := by
  unfold unmixN mixN
  rw [sx_ux 30 _ (mm_lt _ _) (by decide), mm_mm I1 F1 _ (ux_lt _ _ (mm_lt _ _)) (by decide +kernel), sx_ux 27 _ (mm_lt _ _) (by decide), mm_mm I2 F2 _ (ux_lt _ _ h) (by decide +kernel), sx_ux 31 _ h (by decide)]
theorem mix_inj (x y : Nat) (hx : x < M) (hy : y < M) (h : mixN x = mixN y) : x = y := by
  rw [← unmix_mix x hx, ← unmix_mix y hy, h]

/-! ### the same in the walk's own spelling -/
theorem shr (x k : Nat) : x >>> k = x / 2 ^ k := Nat.shiftRight_eq_div_pow x k

/-- x ^ (x >> k), as the walk writes it (s is 2^k) -/
theorem sx_walk (x k s : Nat) (hs : s = 2 ^ k) (h : x < M) : bits .xor .u64 (x : Int) ((x : Int) / (s : Int)) = ((sx k x : Nat) : Int) := by
  rw [xorShift_u64 x s h, sx, shr, hs]
theorem ux_walk (x k s t : Nat) (hs : s = 2 ^ k) (ht : t = 2 ^ (2 * k)) (h : x < M) :
    bits .xor .u64 (x : Int) (bits .xor .u64 ((x : Int) / (s : Int)) ((x : Int) / (t : Int))) = ((ux k x : Nat) : Int) := by
  have d1 : ((x : Int) / (s : Int)) = ((x / s : Nat) : Int) := (Int.natCast_ediv x s).symm
  have d2 : ((x : Int) / (t : Int)) = ((x / t : Nat) : Int) := (Int.natCast_ediv x t).symm
  have l1 : x / s < 18446744073709551616 := Nat.lt_of_le_of_lt (Nat.div_le_self _ _) h
  have l2 : x / t < 18446744073709551616 := Nat.lt_of_le_of_lt (Nat.div_le_self _ _) h
  rw [d1, d2, bits_xor_u64_nat _ _ l1 l2, bits_xor_u64_nat _ _ h (Nat.xor_lt_two_pow (n := 64) l1 l2), ux, shr, shr, hs, ht]
theorem mm_walk (x c : Nat) : IntKind.u64.wrap ((x : Int) * (c : Int)) = ((mm c x : Nat) : Int) := by
  rw [IntKind.wrap_u64, mm, Int.natCast_emod, Int.natCast_mul]; rfl

theorem mix_walk (x : Nat) (h : x < M) :
    bits BinOp.xor IntKind.u64
      (IntKind.u64.wrap (bits BinOp.xor IntKind.u64 (IntKind.u64.wrap (bits BinOp.xor IntKind.u64 (x : Int) ((x : Int) / 1073741824) * 13787848793156543929))
            (IntKind.u64.wrap (bits BinOp.xor IntKind.u64 (x : Int) ((x : Int) / 1073741824) * 13787848793156543929) / 134217728) * 10723151780598845931))
      (IntKind.u64.wrap (bits BinOp.xor IntKind.u64 (IntKind.u64.wrap (bits BinOp.xor IntKind.u64 (x : Int) ((x : Int) / 1073741824) * 13787848793156543929))
            (IntKind.u64.wrap (bits BinOp.xor IntKind.u64 (x : Int) ((x : Int) / 1073741824) * 13787848793156543929) / 134217728) * 10723151780598845931) / 2147483648)
    = ((mixN x : Nat) : Int) := by
  have a := sx_walk x 30 1073741824 (by decide) h
  have b := mm_walk (sx 30 x) 13787848793156543929
  have c := sx_walk (mm F1 (sx 30 x)) 27 134217728 (by decide) (mm_lt _ _)
  have d := mm_walk (sx 27 (mm F1 (sx 30 x))) 10723151780598845931
  have e := sx_walk (mm F2 (sx 27 (mm F1 (sx 30 x)))) 31 2147483648 (by decide) (mm_lt _ _)
  simp only [Int.cast_ofNat_Int, F1, F2] at a b c d e
  rw [a, b, c, d, e]
  rfl

theorem unmix_walk (x : Nat) (h : x < M) :
    bits BinOp.xor IntKind.u64
      (IntKind.u64.wrap (bits BinOp.xor IntKind.u64 (IntKind.u64.wrap (bits BinOp.xor IntKind.u64 (x : Int) (bits BinOp.xor IntKind.u64 ((x : Int) / 2147483648) ((x : Int) / 4611686018427387904)) * 3573116690164977347))
          (bits BinOp.xor IntKind.u64 (IntKind.u64.wrap (bits BinOp.xor IntKind.u64 (x : Int) (bits BinOp.xor IntKind.u64 ((x : Int) / 2147483648) ((x : Int) / 4611686018427387904)) * 3573116690164977347) / 134217728)
            (IntKind.u64.wrap (bits BinOp.xor IntKind.u64 (x : Int) (bits BinOp.xor IntKind.u64 ((x : Int) / 2147483648) ((x : Int) / 4611686018427387904)) * 3573116690164977347) / 18014398509481984)) * 10871156337175269513))
      (bits BinOp.xor IntKind.u64
        (IntKind.u64.wrap (bits BinOp.xor IntKind.u64 (IntKind.u64.wrap (bits BinOp.xor IntKind.u64 (x : Int) (bits BinOp.xor IntKind.u64 ((x : Int) / 2147483648) ((x : Int) / 4611686018427387904)) * 3573116690164977347))
          (bits BinOp.xor IntKind.u64 (IntKind.u64.wrap (bits BinOp.xor IntKind.u64 (x : Int) (bits BinOp.xor IntKind.u64 ((x : Int) / 2147483648) ((x : Int) / 4611686018427387904)) * 3573116690164977347) / 134217728)
            (IntKind.u64.wrap (bits BinOp.xor IntKind.u64 (x : Int) (bits BinOp.xor IntKind.u64 ((x : Int) / 2147483648) ((x : Int) / 4611686018427387904)) * 3573116690164977347) / 18014398509481984)) * 10871156337175269513) / 1073741824)
        (IntKind.u64.wrap (bits BinOp.xor IntKind.u64 (IntKind.u64.wrap (bits BinOp.xor IntKind.u64 (x : Int) (bits BinOp.xor IntKind.u64 ((x : Int) / 2147483648) ((x : Int) / 4611686018427387904)) * 3573116690164977347))
          (bits BinOp.xor IntKind.u64 (IntKind.u64.wrap (bits BinOp.xor IntKind.u64 (x : Int) (bits BinOp.xor IntKind.u64 ((x : Int) / 2147483648) ((x : Int) / 4611686018427387904)) * 3573116690164977347) / 134217728)
            (IntKind.u64.wrap (bits BinOp.xor IntKind.u64 (x : Int) (bits BinOp.xor IntKind.u64 ((x : Int) / 2147483648) ((x : Int) / 4611686018427387904)) * 3573116690164977347) / 18014398509481984)) * 10871156337175269513) / 1152921504606846976))
    = ((unmixN x : Nat) : Int) := by
  have a := ux_walk x 31 2147483648 4611686018427387904 (by decide) (by decide) h
  have b := mm_walk (ux 31 x) 3573116690164977347
  have c := ux_walk (mm I2 (ux 31 x)) 27 134217728 18014398509481984 (by decide) (by decide) (mm_lt _ _)
  have d := mm_walk (ux 27 (mm I2 (ux 31 x))) 10871156337175269513
  have e := ux_walk (mm I1 (ux 27 (mm I2 (ux 31 x)))) 30 1073741824 1152921504606846976 (by decide) (by decide) (mm_lt _ _)
  simp only [Int.cast_ofNat_Int, I1, I2] at a b c d e
  rw [a, b, c, d, e]
  rfl

/-- the bits of r from place j on -/
def top (r j : Nat) : Nat := (r >>> j) <<< j
theorem top_lt (r j : Nat) (h : r < M) : top r j < M := by
  unfold top
  rw [Nat.shiftLeft_eq, Nat.shiftRight_eq_div_pow]
  exact Nat.lt_of_le_of_lt (Nat.div_mul_le_self _ _) h

end Go.Proofs.Ytffgoekdjcempab.MixMath
