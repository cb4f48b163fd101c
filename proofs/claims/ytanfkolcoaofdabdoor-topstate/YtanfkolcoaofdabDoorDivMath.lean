/- Arithmetic of a division of two digits by one, digit by digit (Knuth's algorithm D), in any base B: the estimate of one digit, corrected. -/
import Derived.Test.YtanfkolcoaofdabDoorBase
namespace Go.Proofs.YtanfkolcoaofdabDoor

/-- one digit's data: a divisor of two digits whose first is at least half of the base, what is divided, and the next digit -/
structure Digit (B y1 y0 n u : Nat) : Prop where
  half : B ≤ 2 * y1
  big : 2 ≤ B
  y1lt : y1 < B
  y0lt : y0 < B
  ult : u < B
  nlt : n < y1 * B + y0
theorem Digit.pos {B y1 y0 n u : Nat} (h : Digit B y1 y0 n u) : 0 < y1 * B + y0 :=
  Nat.lt_of_lt_of_le (Nat.mul_pos (by have := h.half; have := h.big; omega) (by have := h.big; omega)) (Nat.le_add_right _ _)

/-- the digit that is wanted -/
def digitQ (B y1 y0 n u : Nat) : Nat := (n * B + u) / (y1 * B + y0)
theorem digitQ_lt {B y1 y0 n u : Nat} (h : Digit B y1 y0 n u) : digitQ B y1 y0 n u < B := by
  unfold digitQ
  rw [Nat.div_lt_iff_lt_mul h.pos]
  have h1 := h.nlt
  have h2 := h.ult
  generalize y1 * B + y0 = Y at *
  have h3 : (n + 1) * B ≤ Y * B := Nat.mul_le_mul_right _ h1
  rw [Nat.succ_mul] at h3
  rw [Nat.mul_comm B Y]
  omega
/-- a number is more than the digit just if its product is more than what is divided -/
theorem digitQ_iff {B y1 y0 n u : Nat} (h : Digit B y1 y0 n u) (q rh : Nat) (he : q * y1 + rh = n) :
    digitQ B y1 y0 n u < q ↔ B * rh + u < q * y0 := by
  unfold digitQ
  rw [Nat.div_lt_iff_lt_mul h.pos, Nat.mul_add, ← he, Nat.add_mul, ← Nat.mul_assoc, Nat.mul_comm rh B]
  generalize q * y1 * B = a
  generalize q * y0 = b
  generalize B * rh = c
  omega

/-- an estimate of the digit that may be too great -/
structure Est (B y1 y0 n u q rh : Nat) : Prop where
  eq : q * y1 + rh = n
  ge : digitQ B y1 y0 n u ≤ q
  rlt : rh < B
  qle : q ≤ B + 1

theorem est_start {B y1 y0 n u : Nat} (h : Digit B y1 y0 n u) : Est B y1 y0 n u (n / y1) (n % y1) := by
  have hp : 0 < y1 := by have := h.half; have := h.big; omega
  have h1 := Nat.div_add_mod n y1
  rw [Nat.mul_comm] at h1
  have hm := Nat.mod_lt n hp
  refine ⟨h1, ?_, by have := h.y1lt; omega, ?_⟩
  · have h3 : ¬ n / y1 + 1 ≤ digitQ B y1 y0 n u := by
      intro hh
      unfold digitQ at hh
      rw [Nat.le_div_iff_mul_le h.pos] at hh
      have h2 := h.ult
      have e : (n / y1 + 1) * (y1 * B + y0) = (n / y1 * y1) * B + y1 * B + (n / y1 + 1) * y0 := by
        rw [Nat.mul_add, ← Nat.mul_assoc, Nat.succ_mul, Nat.add_mul]
      have e2 : n * B = (n / y1 * y1) * B + n % y1 * B := by rw [← Nat.add_mul, h1]
      have e3 : (n % y1 + 1) * B ≤ y1 * B := Nat.mul_le_mul_right _ hm
      rw [Nat.succ_mul] at e3
      omega
    omega
  · have h2 := h.nlt
    have h3 := h.y0lt
    have h4 := h.half
    have h5 : n / y1 < B + 2 := by
      rw [Nat.div_lt_iff_lt_mul hp, Nat.add_mul, Nat.mul_comm B y1]
      omega
    omega
theorem est_on {B y1 y0 n u q rh : Nat} (e : Est B y1 y0 n u q rh) (hq : digitQ B y1 y0 n u < q) (hr : rh + y1 < B) : Est B y1 y0 n u (q - 1) (rh + y1) := by
  obtain ⟨q, rfl⟩ : ∃ p, q = p + 1 := ⟨q - 1, by omega⟩
  have h1 := e.eq
  rw [Nat.succ_mul] at h1
  rw [Nat.add_sub_cancel]
  exact ⟨by omega, by omega, hr, by have := e.qle; omega⟩
theorem est_break {B y1 y0 n u q rh : Nat} (h : Digit B y1 y0 n u) (e : Est B y1 y0 n u q rh) (hq : digitQ B y1 y0 n u < q) (hr : B ≤ rh + y1) : q - 1 = digitQ B y1 y0 n u := by
  obtain ⟨q, rfl⟩ : ∃ p, q = p + 1 := ⟨q - 1, by omega⟩
  have h1 := e.eq
  rw [Nat.succ_mul] at h1
  rw [Nat.add_sub_cancel]
  have h2 := digitQ_iff h q (rh + y1) (by omega)
  have h3 := e.qle
  have h4 : q * y0 ≤ B * y0 := Nat.mul_le_mul_right _ (by omega)
  have h5 : B * y0 ≤ B * (rh + y1) := Nat.mul_le_mul_left _ (by have := h.y0lt; omega)
  have h6 : ¬ digitQ B y1 y0 n u < q := fun hh => by
    have := h2.1 hh
    omega
  omega
theorem est_end {B y1 y0 n u q rh : Nat} (e : Est B y1 y0 n u q rh) (hq : ¬ digitQ B y1 y0 n u < q) : q = digitQ B y1 y0 n u := by
  have := e.ge
  omega
/-- the loop's test -/
theorem est_test {B y1 y0 n u q rh : Nat} (h : Digit B y1 y0 n u) (e : Est B y1 y0 n u q rh) :
    (B ≤ q → digitQ B y1 y0 n u < q) ∧ (q < B → q * y0 < B * B ∧ B * rh + u < B * B ∧ (digitQ B y1 y0 n u < q ↔ B * rh + u < q * y0)) := by
  refine ⟨fun hh => by have := digitQ_lt h; omega, fun hh => ⟨?_, ?_, digitQ_iff h q rh e.eq⟩⟩
  · exact Nat.mul_lt_mul'' hh h.y0lt
  · have h1 : B * (rh + 1) ≤ B * B := Nat.mul_le_mul_left _ e.rlt
    rw [Nat.mul_succ] at h1
    have := h.ult
    omega
/-- what is left of a digit's division -/
theorem digit_left {B y1 y0 n u : Nat} (h : Digit B y1 y0 n u) :
    ∃ r, r < y1 * B + y0 ∧ n * B + u = digitQ B y1 y0 n u * (y1 * B + y0) + r := by
  refine ⟨(n * B + u) % (y1 * B + y0), Nat.mod_lt _ h.pos, ?_⟩
  unfold digitQ
  have := Nat.div_add_mod (n * B + u) (y1 * B + y0)
  rw [Nat.mul_comm ((n * B + u) / (y1 * B + y0))]
  exact this.symm

/-- two digits make the whole quotient -/
theorem two_digits {B Y n u v q1 r1 q0 r0 : Nat} (h1 : n * B + u = q1 * Y + r1) (h0 : r1 * B + v = q0 * Y + r0) (hr : r0 < Y) :
    ((n * B + u) * B + v) / Y = q1 * B + q0 ∧ ((n * B + u) * B + v) % Y = r0 := by
  have e : (n * B + u) * B + v = Y * (q1 * B + q0) + r0 := by
    rw [h1, Nat.add_mul, Nat.mul_add, Nat.mul_comm Y (q1 * B), Nat.mul_comm Y q0, Nat.mul_right_comm q1 B Y]
    generalize q1 * Y * B = a at *
    generalize q0 * Y = b at *
    generalize r1 * B = c at *
    omega
  rw [e]
  constructor
  · rw [Nat.mul_add_div (by omega), Nat.div_eq_of_lt hr, Nat.add_zero]
  · rw [Nat.mul_add_mod, Nat.mod_eq_of_lt hr]
/-- a division whose both sides were moved up by the same bits -/
theorem moved_div (x y p : Nat) (hp : 0 < p) : (x * p) / (y * p) = x / y ∧ (x * p) % (y * p) / p = x % y := by
  constructor
  · exact Nat.mul_div_mul_right _ _ hp
  · rw [Nat.mul_mod_mul_right, Nat.mul_div_cancel _ hp]
end Go.Proofs.YtanfkolcoaofdabDoor
