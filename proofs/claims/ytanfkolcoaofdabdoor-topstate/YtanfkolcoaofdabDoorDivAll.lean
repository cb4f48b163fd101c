/- The contract of math/bits.Div64: quotient and remainder, for every divisor greater than the high half. -/
import Derived.Test.YtanfkolcoaofdabDoorDiv64
import Derived.Deep.QuietTactic
import Derived.BigQuiet
namespace Go.Proofs.YtanfkolcoaofdabDoor
open Go.ChangeShapes Go.WideShapes Go.ChangeAt Go.RowKit

theorem toNat64 (a : Nat) (ha : a < 18446744073709551616) : (BitVec.ofInt 64 (a : Int)).toNat = a := by
  rw [BitVec.ofInt_natCast, BitVec.toNat_ofNat]
  exact Nat.mod_eq_of_lt ha
theorem wrap_nat (c : Nat) (h : c < 18446744073709551616) : IntKind.u64.wrap (c : Int) = (c : Int) := by
  rw [IntKind.wrap_u64]
  omega
theorem or_u64 (a b : Nat) (ha : a < 18446744073709551616) (hb : b < 18446744073709551616) : bits .or .u64 (a : Int) (b : Int) = ((a ||| b : Nat) : Int) := by
  have hx : a ||| b < 2 ^ 64 := Nat.or_lt_two_pow ha hb
  show IntKind.u64.wrap ((BitVec.ofInt 64 (a : Int) ||| BitVec.ofInt 64 (b : Int)).toNat : Int) = _
  rw [BitVec.toNat_or, toNat64 a ha, toNat64 b hb]
  exact wrap_nat _ hx
theorem and_u64 (a b : Nat) (ha : a < 18446744073709551616) (hb : b < 18446744073709551616) : bits .and .u64 (a : Int) (b : Int) = ((a &&& b : Nat) : Int) := by
  have hx : a &&& b < 2 ^ 64 := Nat.and_lt_two_pow _ hb
  show IntKind.u64.wrap ((BitVec.ofInt 64 (a : Int) &&& BitVec.ofInt 64 (b : Int)).toNat : Int) = _
  rw [BitVec.toNat_and, toNat64 a ha, toNat64 b hb]
  exact wrap_nat _ hx
theorem mask32 (a : Nat) (ha : a < 18446744073709551616) : bits .and .u64 (a : Int) 4294967295 = ((a % 4294967296 : Nat) : Int) := by
  have h := and_u64 a 4294967295 ha (by omega)
  rw [show a &&& 4294967295 = a % 4294967296 from Nat.and_two_pow_sub_one_eq_mod a 32] at h
  exact h
theorem halves32 (a : Nat) : (a : Int) / 4294967296 = ((a / 4294967296 : Nat) : Int) := by omega

theorem parts32 (n L : Nat) : (n * 4294967296 + L / 4294967296) * 4294967296 + L % 4294967296 = n * 18446744073709551616 + L := by omega
/-- the shifted dividend's parts -/
theorem moved_gen (hi lo p q M : Nat) (hp : p * q = M) (hq : 0 < q) (hr : 0 < p) (h3 : lo < M) :
    lo / q < p ∧ (hi * p + lo / q) * M + lo * p % M = (hi * M + lo) * p := by
  have hlt : lo / q < p := by
    rw [Nat.div_lt_iff_lt_mul hq, hp]
    exact h3
  refine ⟨hlt, ?_⟩
  have e1 : lo * p / M = lo / q := by
    rw [← hp, Nat.mul_comm lo, Nat.mul_div_mul_left _ _ hr]
  have e2 := Nat.div_add_mod (lo * p) M
  rw [e1] at e2
  rw [Nat.add_mul (hi * M), Nat.mul_right_comm hi M p, Nat.add_mul, Nat.mul_comm (lo / q) M, Nat.add_assoc, e2]
theorem moved (hi lo s : Nat) (hs : s ≤ 64) (h3 : lo < 18446744073709551616) :
    (hi * 2 ^ s) ||| (lo / 2 ^ (64 - s)) = hi * 2 ^ s + lo / 2 ^ (64 - s) ∧ lo / 2 ^ (64 - s) < 2 ^ s ∧
    (hi * 2 ^ s + lo / 2 ^ (64 - s)) * 18446744073709551616 + lo * 2 ^ s % 18446744073709551616 = (hi * 18446744073709551616 + lo) * 2 ^ s := by
  have hp : (2 : Nat) ^ s * 2 ^ (64 - s) = 18446744073709551616 := by
    rw [← Nat.pow_add, show s + (64 - s) = 64 from by omega]
  obtain ⟨hlt, e⟩ := moved_gen hi lo (2 ^ s) (2 ^ (64 - s)) _ hp (Nat.pow_pos (by decide)) (Nat.pow_pos (by decide)) h3
  refine ⟨?_, hlt, e⟩
  rw [Nat.mul_comm hi, ← Nat.two_pow_add_eq_or_of_lt hlt]

theorem div64_hi (hi lo y : Nat) (h0 : 0 < hi) (h1 : hi < y) (h2 : y < 18446744073709551616) (h3 : lo < 18446744073709551616) (w : World) :
    Calls Tryd.prog 40 #[.int .u64 hi, .int .u64 lo, .int .u64 y] w fun e w' => e = .returned (.tuple #[.int .u64 (((hi * 18446744073709551616 + lo) / y : Nat) : Int), .int .u64 (((hi * 18446744073709551616 + lo) % y : Nat) : Int)]) ∧ w = w' := by
  have hb := bitLenAux_bd 64 y (by omega) h2
  have hle : Lib.bitLen y ≤ 64 := Lib.bitLen_le y 64 (by omega) h2
  have hbe : Lib.bitLen y = Lib.bitLenAux 64 y := rfl
  rw [← hbe] at hb
  obtain ⟨s, hs⟩ : ∃ s, s + Lib.bitLen y = 64 := ⟨64 - Lib.bitLen y, by omega⟩
  have hs63 : s ≤ 63 := by omega
  have HS : (64 - ((Lib.bitLen ((y : Int)).toNat : Nat) : Int)) = (s : Int) := by
    rw [Int.toNat_natCast]
    omega
  have hp : (2 : Nat) ^ s * 2 ^ (Lib.bitLen y) = 18446744073709551616 := by rw [← Nat.pow_add, hs]
  have hp1 : (2 : Nat) ^ s * 2 ^ (Lib.bitLen y - 1) = 9223372036854775808 := by rw [← Nat.pow_add, show s + (Lib.bitLen y - 1) = 63 from by omega]
  have hr : 0 < 2 ^ s := Nat.pow_pos (by decide)
  have hY : y * 2 ^ s < 18446744073709551616 := by
    rw [← hp, Nat.mul_comm y]
    exact Nat.mul_lt_mul_of_pos_left hb.2.2 hr
  have hY1 : 9223372036854775808 ≤ y * 2 ^ s := by
    rw [← hp1, Nat.mul_comm y]
    exact Nat.mul_le_mul_left _ hb.2.1
  obtain ⟨m1, m2, m3⟩ := moved hi lo s (by omega) h3
  have hhi : (hi + 1) * 2 ^ s ≤ y * 2 ^ s := Nat.mul_le_mul_right _ h1
  rw [Nat.succ_mul] at hhi
  have c1 : IntKind.u64.wrap ((y : Int) * 2 ^ s) = ((y * 2 ^ s : Nat) : Int) := by
    rw [← wrap_nat _ hY, Int.natCast_mul, Int.natCast_pow]; rfl
  have c2 : IntKind.u64.wrap ((hi : Int) * 2 ^ s) = ((hi * 2 ^ s : Nat) : Int) := by
    rw [← wrap_nat (hi * 2 ^ s) (by omega), Int.natCast_mul, Int.natCast_pow]; rfl
  have c3 : (lo : Int) / 2 ^ (64 - s) = ((lo / 2 ^ (64 - s) : Nat) : Int) := by
    rw [Int.natCast_ediv, Int.natCast_pow]; rfl
  have c4 : bits .or .u64 (IntKind.u64.wrap ((hi : Int) * 2 ^ s)) ((lo : Int) / 2 ^ (64 - s)) = ((hi * 2 ^ s + lo / 2 ^ (64 - s) : Nat) : Int) := by
    rw [c2, c3, or_u64 _ _ (by omega) (by omega), m1]
  have c5 : IntKind.u64.wrap ((lo : Int) * 2 ^ s) = ((lo * 2 ^ s % 18446744073709551616 : Nat) : Int) := by
    rw [IntKind.wrap_u64, Int.natCast_emod, Int.natCast_mul, Int.natCast_pow]; rfl
  have hn : hi * 2 ^ s + lo / 2 ^ (64 - s) < y * 2 ^ s := by omega
  have hL : lo * 2 ^ s % 18446744073709551616 < 18446744073709551616 := Nat.mod_lt _ (by decide)
  have e := moved_div (hi * 18446744073709551616 + lo) y (2 ^ s) hr
  rw [← m3] at e
  generalize hi * 2 ^ s + lo / 2 ^ (64 - s) = n at *
  generalize lo * 2 ^ s % 18446744073709551616 = L at *
  generalize y * 2 ^ s = Y at *
  have hsplit : Y / 4294967296 * 4294967296 + Y % 4294967296 = Y := Nat.div_add_mod' _ _
  clear hp hp1 hb hbe hhi m1 m2 m3 c2 c3
  refine (div64_core hi lo y s Y n L (Y / 4294967296) (Y % 4294967296) (L / 4294967296) (L % 4294967296) h0 h1 h2 h3 hs63 (Lib.hid HS) c1 (mask32 Y hY) (halves32 Y) c4 c5 (halves32 L) (mask32 L hL) hY (by omega) (Lib.hid hsplit)
    ⟨by omega, by omega, by omega, by omega, by omega, by omega⟩ (by omega) w).mono ?_
  rintro e0 w1 ⟨q1, r1, q0, r0, k1, k2, k3, rfl, rfl⟩
  obtain ⟨d1, d2⟩ := two_digits k1 k2 k3
  rw [parts32] at d1 d2
  rw [← e.1, ← e.2, d1, d2]
  exact ⟨rfl, rfl⟩

set_option maxHeartbeats 1000000 in
theorem div64_lo (lo y : Nat) (h1 : 0 < y) (h2 : y < 18446744073709551616) (h3 : lo < 18446744073709551616) (w : World) :
    Calls Tryd.prog 40 #[.int .u64 0, .int .u64 lo, .int .u64 y] w fun e w' => e = .returned (.tuple #[.int .u64 ((lo / y : Nat) : Int), .int .u64 ((lo % y : Nat) : Int)]) ∧ Below w.heap.size w w' := by
  have t0 : (((y : Nat) : Int) == 0) = false := by simp; omega
  have E := wrap_quo lo y h3
  go_enter Tryd.func40, Tryd.ntmps40
  go_wp2
  go_quiet (fail)
  go_wp2
  go_ret2
  exact ⟨rfl, below_drewN (Below.refl _ _) _⟩
theorem div64_any (hi lo y : Nat) (h1 : hi < y) (h2 : y < 18446744073709551616) (h3 : lo < 18446744073709551616) (w : World) :
    Calls Tryd.prog 40 #[.int .u64 hi, .int .u64 lo, .int .u64 y] w fun e w' => e = .returned (.tuple #[.int .u64 (((hi * 18446744073709551616 + lo) / y : Nat) : Int), .int .u64 (((hi * 18446744073709551616 + lo) % y : Nat) : Int)]) ∧ Below w.heap.size w w' := by
  by_cases h0 : hi = 0
  · subst h0
    rw [Nat.zero_mul, Nat.zero_add]
    exact div64_lo lo y h1 h2 h3 w
  · exact (div64_hi hi lo y (by omega) h1 h2 h3 w).mono fun e w' ⟨h, h'⟩ => ⟨h, h' ▸ Below.refl _ _⟩
end Go.Proofs.YtanfkolcoaofdabDoor
