/- Plain facts on the hexadecimal digits of a number. No Go in sight. -/
import Derived.Laws.Bits64
namespace Go.Proofs.YtfocmnjkoominaaDoor.HexaMath

/-- the sixteen digits -/
def digits : ByteArray := ⟨#[48, 49, 50, 51, 52, 53, 54, 55, 56, 57, 97, 98, 99, 100, 101, 102]⟩
theorem digits_size : digits.size = 16 := rfl
def dig (d : Nat) : UInt8 := digits.data.getD (d % 16) 48
theorem dig_get (m : Nat) (h : m % 16 < digits.size) : digits[m % 16]'h = dig m := by
  have h' : m % 16 < 16 := Nat.mod_lt _ (by decide)
  unfold dig
  rw [Array.getD_eq_getD_getElem?, Array.getElem?_eq_getElem (by exact h')]
  rfl

/-- the digit at place j (from the left, 0 to 13) -/
def at14 (n j : Nat) : UInt8 := dig (n / 16 ^ (13 - j))
/-- the fourteen cells, those from place j on written -/
def cellsL (n j : Nat) : List Value := (List.range 14).map fun i => if j ≤ i then .int .u8 ((at14 n i).toNat : Int) else .int .u8 0
def cellsAt (n j : Nat) : Array Value := (cellsL n j).toArray
theorem cellsL_get (n j i : Nat) (h : i < 14) : (cellsL n j)[i]? = some (if j ≤ i then .int .u8 ((at14 n i).toNat : Int) else .int .u8 0) := by
  simp [cellsL, h]
theorem cellsL_length (n j : Nat) : (cellsL n j).length = 14 := by simp [cellsL]
theorem cellsAt_size (n j : Nat) : (cellsAt n j).size = 14 := by simp [cellsAt, cellsL]
theorem cellsAt_get (n j i : Nat) (h : i < 14) : (cellsAt n j)[i]? = some (if j ≤ i then .int .u8 ((at14 n i).toNat : Int) else .int .u8 0) := by
  simp [cellsAt, cellsL_get n j i h]
theorem cellsAt_start (n : Nat) : cellsAt n 14 = #[.int .u8 0, .int .u8 0, .int .u8 0, .int .u8 0, .int .u8 0, .int .u8 0, .int .u8 0, .int .u8 0, .int .u8 0, .int .u8 0, .int .u8 0, .int .u8 0, .int .u8 0, .int .u8 0] := by
  simp [cellsAt, cellsL, List.range, List.range.loop]
theorem cellsAt_set (n j : Nat) (h : j < 14) : (cellsAt n (j + 1)).setIfInBounds j (.int .u8 ((at14 n j).toNat : Int)) = cellsAt n j := by
  unfold cellsAt
  rw [List.setIfInBounds_toArray]
  congr 1
  apply List.ext_getElem?
  intro i
  by_cases hi : i < 14
  · rw [List.getElem?_set, cellsL_length, cellsL_get n j i hi, cellsL_get n (j + 1) i hi]
    by_cases hij : j = i
    · subst hij; simp [h]
    · rw [if_neg hij]
      by_cases hl : j ≤ i
      · rw [if_pos hl, if_pos (by omega)]
      · rw [if_neg hl, if_neg (by omega)]
  · rw [List.getElem?_eq_none (by rw [List.length_set, cellsL_length]; omega), List.getElem?_eq_none (by rw [cellsL_length]; omega)]

theorem next_place (n j : Nat) (h : j < 14) : n / 16 ^ (14 - j) = n / 16 ^ (14 - (j + 1)) / 16 := by
  rw [Nat.div_div_eq_div_mul, ← Nat.pow_succ, show (14 - (j + 1)).succ = 14 - j from by omega]
theorem dig_place (n j : Nat) (h : j < 14) : at14 n j = digits[n / 16 ^ (14 - (j + 1)) % 16]'(by rw [digits_size]; exact Nat.mod_lt _ (by decide)) := by
  rw [dig_get, at14, show 14 - (j + 1) = 13 - j from by omega]

/-- a number as fourteen digits -/
def rv (n : Nat) : List UInt8 := (List.range 14).map (at14 n)
theorem rv_length (n : Nat) : (rv n).length = 14 := by simp [rv]
theorem rv_get (n i : Nat) (h : i < 14) : (rv n)[i]? = some (at14 n i) := by simp [rv, h]

/-- how long a text is without its zeros at the end, one digit at least -/
def cut (s : ByteArray) : Nat → Nat
  | 0 => 0
  | 1 => 1
  | k + 2 => if (s.data.getD (k + 1) 0) = 48 then cut s (k + 1) else k + 2

theorem byte_getD (s : ByteArray) (k : Nat) (h : k < s.size) : s.data.getD k 0 = s[k] := by
  rw [Array.getD_eq_getD_getElem?, Array.getElem?_eq_getElem (by exact h)]; rfl
theorem cut_zero (s : ByteArray) (k : Nat) (h1 : 1 < k) (h : k - 1 < s.size) (e : (((s[k - 1]'h).toNat : Int) == 48) = true) : cut s k = cut s (k - 1) := by
  obtain ⟨j, rfl⟩ : ∃ j, k = j + 2 := ⟨k - 2, by omega⟩
  have hj : s.data.getD (j + 1) 0 = 48 := by
    rw [byte_getD s (j + 1) h]
    have e' : ((s[j + 1]'h).toNat : Int) = 48 := by simpa using e
    have : (s[j + 1]'h).toNat = (48 : UInt8).toNat := by rw [show (48 : UInt8).toNat = 48 from rfl]; omega
    exact UInt8.toNat_inj.1 this
  show cut s (j + 2) = cut s (j + 1)
  rw [cut, if_pos hj]
theorem cut_stop (s : ByteArray) (k : Nat) (h1 : 1 < k) (h : k - 1 < s.size) (e : (((s[k - 1]'h).toNat : Int) == 48) = false) : cut s k = k := by
  obtain ⟨j, rfl⟩ : ∃ j, k = j + 2 := ⟨k - 2, by omega⟩
  have hj : ¬ s.data.getD (j + 1) 0 = 48 := by
    rw [byte_getD s (j + 1) h]
    intro e'
    have : (((s[j + 1]'h).toNat : Int) == 48) = true := by rw [e']; rfl
    exact Bool.noConfusion (this.symm.trans e)
  rw [cut, if_neg hj]
theorem cut_one (s : ByteArray) (k : Nat) (h1 : 1 ≤ k) (h : (k : Int) ≤ 1) : cut s k = k := by
  obtain rfl : k = 1 := by omega
  rfl
theorem cut_le (s : ByteArray) (k : Nat) : cut s k ≤ k := by
  induction k using cut.induct s with
  | case1 => exact Nat.le_refl _
  | case2 => exact Nat.le_refl _
  | case3 k h ih => rw [cut, if_pos h]; omega
  | case4 k h => rw [cut, if_neg h]; omega
theorem cut_pos (s : ByteArray) (k : Nat) (hk : 1 ≤ k) : 1 ≤ cut s k := by
  induction k using cut.induct s with
  | case1 => omega
  | case2 => exact Nat.le_refl _
  | case3 k h ih => rw [cut, if_pos h]; exact ih (by omega)
  | case4 k h => rw [cut, if_neg h]; omega

theorem rv_getD (n j : Nat) (h : j < 14) : (rv n).toArray.getD j 0 = at14 n j := by
  rw [Array.getD_eq_getD_getElem?, List.getElem?_toArray, rv_get n j h]; rfl
/-- a number that ends in k zeros -/
theorem at14_zero (q k j : Nat) (h : 13 - j < k) : at14 (q * 16 ^ k) j = 48 := by
  have e : q * 16 ^ k / 16 ^ (13 - j) % 16 = 0 := by
    rw [show k = (13 - j) + 1 + (k - (13 - j) - 1) from by omega]
    generalize k - (13 - j) - 1 = r
    generalize 13 - j = i
    rw [Nat.pow_add, Nat.pow_succ, show q * (16 ^ i * 16 * 16 ^ r) = (q * 16 ^ r * 16) * 16 ^ i from by
      rw [Nat.mul_comm (16 ^ i * 16), ← Nat.mul_assoc, ← Nat.mul_assoc, Nat.mul_right_comm (q * 16 ^ r)]]
    rw [Nat.mul_div_cancel _ (Nat.pow_pos (by decide))]
    exact Nat.mul_mod_left _ _
  unfold at14 dig
  rw [e]
  rfl
theorem cut_zeros (q k : Nat) (hk : k ≤ 13) : ∀ i, i ≤ k → cut ⟨(rv (q * 16 ^ k)).toArray⟩ 14 = cut ⟨(rv (q * 16 ^ k)).toArray⟩ (14 - i) := by
  intro i
  induction i with
  | zero => intro _; rfl
  | succ i ih =>
    intro hi
    rw [ih (by omega), show 14 - i = (12 - i) + 2 from by omega, cut, show 14 - (i + 1) = 12 - i + 1 from by omega]
    rw [if_pos]
    show (rv (q * 16 ^ k)).toArray.getD (12 - i + 1) 0 = 48
    rw [rv_getD _ _ (by omega)]
    exact at14_zero q k _ (by omega)
theorem cut_short (q k : Nat) (hk : k ≤ 13) : cut ⟨(rv (q * 16 ^ k)).toArray⟩ 14 ≤ 14 - k := by
  rw [cut_zeros q k hk k (Nat.le_refl _)]
  exact cut_le _ _

end Go.Proofs.YtfocmnjkoominaaDoor.HexaMath
