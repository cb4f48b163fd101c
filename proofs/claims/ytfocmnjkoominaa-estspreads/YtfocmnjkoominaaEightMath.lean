/- All draws of items of their own, eight of each, one behind the other: the squares of how far the estimate is from the total come, in the mean, to the spread. Mathematics alone. -/
import Derived.Test.YtfocmnjkoominaaOwnSpot
import Derived.Test.YtfocmnjkoominaaMeanMath
namespace Go.Proofs.Ytfocmnjkoominaa
namespace Eight
open Est Span

def dig (t i : Nat) : Nat := t / 8 ^ i % 8
def vec (n t : Nat) : List Int := listTo (fun i => (dig t i : Int)) n
/-- the same with the first i places back at nought -/
def mid (n t i : Nat) : List Int := listTo (fun j => if j < i then 0 else (dig t j : Int)) n
theorem dig_lt (t i : Nat) : dig t i < 8 := Nat.mod_lt _ (by decide)
theorem vec_len (n t : Nat) : (vec n t).length = n := listTo_len _ _
theorem vec_get {n t i : Nat} (h : i < n) : (vec n t)[i]? = some (dig t i : Int) := listTo_get h
theorem mid_len (n t i : Nat) : (mid n t i).length = n := listTo_len _ _
theorem mid_zero (n t : Nat) : mid n t 0 = vec n t := rfl
theorem mid_get {n t i j : Nat} (h : j < n) : (mid n t i)[j]? = some (if j < i then 0 else (dig t j : Int)) := listTo_get h
theorem mid_set {n t i : Nat} (h : i < n) : (mid n t i).set i 0 = mid n t (i + 1) := by
  apply List.ext_getElem?
  intro j
  by_cases hj : j < n
  · by_cases e : j = i
    · subst e
      rw [List.getElem?_set_self (by rw [mid_len]; exact hj), mid_get hj, if_pos (by omega)]
    · rw [List.getElem?_set_ne (by omega), mid_get hj, mid_get hj]
      by_cases h2 : j < i
      · rw [if_pos h2, if_pos (by omega)]
      · rw [if_neg h2, if_neg (by omega)]
  · rw [List.getElem?_eq_none (by rw [List.length_set, mid_len]; omega), List.getElem?_eq_none (by rw [mid_len]; omega)]
theorem vec_nought (n : Nat) : List.replicate n (0 : Int) = vec n 0 := by
  rw [rep_listTo]
  exact listTo_congr (fun i _ => by unfold dig; rw [Nat.zero_div, Nat.zero_mod]; rfl)
/-- the first i digits stand at their greatest -/
def full (t i : Nat) : Bool := (List.range i).all (fun j => dig t j == 7)
theorem full_succ (t i : Nat) : full t (i + 1) = (full t i && (dig t i == 7)) := by
  unfold full
  rw [List.range_succ, List.all_append]
  simp
def stepOk (n t i : Nat) : Bool := !(full t i && !(dig t i == 7)) || ((mid n t i).set i ((dig t i : Int) + 1) == vec n (t + 1) && decide (t + 1 < 8 ^ n))
def endOk (n t : Nat) : Bool := !(full t n) || decide (t + 1 = 8 ^ n)
def stepsOk (n : Nat) : Bool := (List.range (8 ^ n)).all (fun t => (List.range n).all (fun i => stepOk n t i) && endOk n t)
theorem steps_all : ((List.range 4).all fun n => stepsOk n) = true := by decide +kernel
theorem step_next {n t i : Nat} (hn : n ≤ 3) (ht : t < 8 ^ n) (hi : i < n) (hf : full t i = true) (hd : dig t i ≠ 7) : (mid n t i).set i ((dig t i : Int) + 1) = vec n (t + 1) ∧ t + 1 < 8 ^ n := by
  have h1 := List.all_eq_true.1 steps_all n (List.mem_range.2 (by omega))
  have h2 := List.all_eq_true.1 h1 t (List.mem_range.2 ht)
  rw [Bool.and_eq_true] at h2
  have h3 := List.all_eq_true.1 h2.1 i (List.mem_range.2 hi)
  unfold stepOk at h3
  rw [hf, show (dig t i == 7) = false from by simpa using hd] at h3
  simp at h3
  exact h3
theorem step_end {n t : Nat} (hn : n ≤ 3) (ht : t < 8 ^ n) (hf : full t n = true) : t + 1 = 8 ^ n := by
  have h1 := List.all_eq_true.1 steps_all n (List.mem_range.2 (by omega))
  have h2 := List.all_eq_true.1 h1 t (List.mem_range.2 ht)
  rw [Bool.and_eq_true] at h2
  have h3 := h2.2
  unfold endOk at h3
  rw [hf] at h3
  simpa using h3
theorem wide_le {n : Nat} (hn : n ≤ 3) : 1 ≤ 8 ^ n ∧ 8 ^ n ≤ 512 := by
  have h1 : 8 ^ n ≤ 8 ^ 3 := Nat.pow_le_pow_right (by decide) hn
  have h2 : 0 < 8 ^ n := Nat.pow_pos (by decide)
  omega

/-! ### sums over all draws -/
theorem sumTo_part (F : Nat → Int) (m : Nat) : ∀ k, sumTo F (m + k) = sumTo F m + sumTo (fun r => F (m + r)) k
  | 0 => by simp [sumTo]
  | k + 1 => by rw [← Nat.add_assoc, sumTo, sumTo_part F m k, sumTo, Int.add_assoc]
theorem sumTo_split (F : Nat → Int) (a : Nat) : ∀ b, sumTo F (a * b) = sumTo (fun q => sumTo (fun r => F (q * a + r)) a) b
  | 0 => rfl
  | b + 1 => by
    rw [Nat.mul_succ, sumTo_part, sumTo_split F a b, sumTo, Nat.mul_comm b a]
theorem sumTo_const (c : Int) : ∀ k : Nat, sumTo (fun _ => c) k = (k : Int) * c
  | 0 => by simp [sumTo]
  | k + 1 => by rw [sumTo, sumTo_const c k, Int.natCast_add, Int.add_mul]; simp
theorem sumTo_two (f g : Nat → Int) (m : Nat) : sumTo (fun i => f i + g i) m = sumTo f m + sumTo g m := sumTo_add _ f g (fun _ => rfl) m
theorem dig_low {n r q i : Nat} (hi : i < n) : dig (q * 8 ^ n + r) i = dig r i := by
  unfold dig
  obtain ⟨d, rfl⟩ : ∃ d, n = i + d + 1 := ⟨n - i - 1, by omega⟩
  have e : q * 8 ^ (i + d + 1) + r = r + 8 ^ i * (q * 8 ^ d * 8) := by
    rw [Nat.pow_succ, Nat.pow_add]
    generalize 8 ^ i = a
    generalize 8 ^ d = b
    rw [Nat.add_comm]
    congr 1
    rw [show q * (a * b * 8) = a * (q * b * 8) by simp only [Nat.mul_left_comm, Nat.mul_comm, Nat.mul_assoc]]
  rw [e, Nat.add_mul_div_left _ _ (Nat.pow_pos (by decide)), Nat.add_mul_mod_self_right]
theorem dig_high {n r q : Nat} (hr : r < 8 ^ n) (hq : q < 8) : dig (q * 8 ^ n + r) n = q := by
  unfold dig
  rw [Nat.mul_comm, Nat.add_comm, Nat.add_mul_div_left _ _ (Nat.pow_pos (by decide)), Nat.div_eq_of_lt hr, Nat.zero_add, Nat.mod_eq_of_lt hq]
def far (D : Nat → Nat → Int) (n t : Nat) : Int := sumTo (fun i => D i (dig t i)) n
theorem far_succ {D : Nat → Nat → Int} {n r q : Nat} (hr : r < 8 ^ n) (hq : q < 8) : far D (n + 1) (q * 8 ^ n + r) = far D n r + D n q := by
  unfold far
  rw [sumTo, dig_high hr hq, sumTo_congr (fun i hi => by rw [dig_low hi])]
theorem all_sq {D : Nat → Nat → Int} {V : Nat → Int} (h1 : ∀ i, sumTo (fun w => D i w) 8 = 0) (h2 : ∀ i, sumTo (fun w => D i w * D i w) 8 = 8 * V i) : ∀ n : Nat, sumTo (fun t => far D n t) (8 ^ n) = 0 ∧ sumTo (fun t => far D n t * far D n t) (8 ^ n) = ((8 ^ n : Nat) : Int) * sumTo V n
  | 0 => by constructor <;> rfl
  | n + 1 => by
    obtain ⟨i1, i2⟩ := all_sq h1 h2 n
    rw [Nat.pow_succ]
    constructor
    · rw [sumTo_split, sumTo_congr (g := fun q => ((8 ^ n : Nat) : Int) * D n q) (fun q hq => by
        rw [sumTo_congr (g := fun r => far D n r + D n q) (fun r hr => far_succ hr hq), sumTo_two, i1, sumTo_const, Int.zero_add]), sumTo_congr (fun q _ => Int.mul_comm _ _), sumTo_mul, h1, Int.zero_mul]
    · rw [sumTo_split, sumTo_congr (g := fun q => ((8 ^ n : Nat) : Int) * sumTo V n + D n q * D n q * ((8 ^ n : Nat) : Int)) (fun q hq => by
        rw [sumTo_congr (g := fun r => far D n r * far D n r + (far D n r * (2 * D n q) + D n q * D n q)) (fun r hr => by
          rw [far_succ hr hq]
          generalize far D n r = A
          generalize D n q = d
          rw [Int.add_mul, Int.mul_add, Int.mul_add, Int.mul_comm d A, show A * (2 * d) = A * d + A * d by rw [Int.mul_left_comm, Int.two_mul]]
          omega), sumTo_two, sumTo_two, i2, sumTo_mul, i1, Int.zero_mul, sumTo_const, Int.zero_add, Int.mul_comm (D n q * D n q)]), sumTo_two, sumTo_const, sumTo_mul, h2, sumTo]
      rw [Int.natCast_mul]
      generalize ((8 ^ n : Nat) : Int) = p
      generalize sumTo V n = s
      generalize V n = v
      rw [Int.mul_add]
      congr 1
      · rw [show ((8 : Nat) : Int) = 8 from rfl, Int.mul_comm p 8, Int.mul_assoc]
      · rw [show ((8 : Nat) : Int) = 8 from rfl, Int.mul_comm p 8, Int.mul_assoc, Int.mul_assoc, Int.mul_comm v p]
/-- how far an item's part is from its value -/
def off (x v : Int) (w : Nat) : Int := term x v ((w : Int) * 9007199254740992) - x
def offK (v : Int) (w : Nat) : Int := (if thr v ≤ (w : Int) * 9007199254740992 then ((2 ^ v.toNat : Nat) : Int) else 0) - 1
theorem off_eq (x v : Int) (w : Nat) : off x v w = offK v w * x := by
  unfold off offK
  rw [term_if, Int.sub_mul, Int.one_mul]
theorem offK_all : ∀ v : Fin 4, sumTo (fun w => offK (v.val : Int) w) 8 = 0 ∧ sumTo (fun w => offK (v.val : Int) w * offK (v.val : Int) w) 8 = 8 * (((2 ^ v.val : Nat) : Int) - 1) := by decide +kernel
theorem off_none {x v : Int} (h0 : 0 ≤ v) (h3 : v ≤ 3) : sumTo (fun w => off x v w) 8 = 0 := by
  obtain ⟨m, rfl⟩ := Int.eq_ofNat_of_zero_le h0
  rw [sumTo_congr (fun w _ => off_eq x m w), sumTo_mul, (offK_all ⟨m, by omega⟩).1, Int.zero_mul]
theorem off_sq {x v : Int} (h0 : 0 ≤ v) (h3 : v ≤ 3) : sumTo (fun w => off x v w * off x v w) 8 = 8 * wide x v := by
  obtain ⟨m, rfl⟩ := Int.eq_ofNat_of_zero_le h0
  rw [sumTo_congr (g := fun w => offK m w * offK m w * (x * x)) (fun w _ => by rw [off_eq x m w, Int.mul_assoc, Int.mul_left_comm x, Int.mul_assoc]), sumTo_mul, (offK_all ⟨m, by omega⟩).2]
  unfold wide
  rw [Int.toNat_natCast, Int.mul_assoc, Int.mul_comm (x * x)]
/-- the estimate of the t-th draws -/
def est (f g : Nat → Int) (n t : Nat) : Int := sumTo (fun i => term (f i) (g i) ((dig t i : Int) * 9007199254740992)) n
theorem est_far (f g : Nat → Int) (n t : Nat) : est f g n t - sumTo f n = far (fun i w => off (f i) (g i) w) n t := by
  unfold est far
  have h := sumTo_two (fun i => off (f i) (g i) (dig t i)) f n
  have e : sumTo (fun i => off (f i) (g i) (dig t i) + f i) n = sumTo (fun i => term (f i) (g i) ((dig t i : Int) * 9007199254740992)) n := sumTo_congr (fun i _ => by unfold off; omega)
  rw [← e, h]
  show _ + sumTo f n - sumTo f n = _
  exact Int.add_sub_cancel _ _
/-- the squares of the first draws -/
def farTo (f g : Nat → Int) (n : Nat) : Nat → Int := sumTo (fun t => (est f g n t - sumTo f n) * (est f g n t - sumTo f n))
theorem far_all {f g : Nat → Int} (hg : ∀ i, 0 ≤ g i ∧ g i ≤ 3) (n : Nat) : farTo f g n (8 ^ n) = ((8 ^ n : Nat) : Int) * sumTo (fun i => wide (f i) (g i)) n := by
  unfold farTo
  rw [sumTo_congr (g := fun t => far (fun i w => off (f i) (g i) w) n t * far (fun i w => off (f i) (g i) w) n t) (fun t _ => by rw [est_far])]
  exact (all_sq (D := fun i w => off (f i) (g i) w) (V := fun i => wide (f i) (g i)) (fun i => off_none (hg i).1 (hg i).2) (fun i => off_sq (hg i).1 (hg i).2) n).2
theorem term3_bd {x v r : Int} (h0 : -1000 ≤ x) (h1 : x ≤ 1000) (v0 : 0 ≤ v) (v3 : v ≤ 3) : -8000 ≤ term x v r ∧ term x v r ≤ 8000 := by
  have h3 : 2 ^ v.toNat ≤ 2 ^ 3 := Nat.pow_le_pow_right (by decide) (by omega)
  have h2 : 0 < 2 ^ v.toNat := Nat.pow_pos (by decide)
  unfold term
  split
  · generalize 2 ^ v.toNat = p at *
    have := mul_bd (x := x) (p := (p : Int)) (B := 1000) (C := 8) h0 h1 (by omega) (by omega) (by omega)
    omega
  · omega
theorem est_bd {f g : Nat → Int} {n t : Nat} (hn : n ≤ 3) (hf : ∀ i, -1000 ≤ f i ∧ f i ≤ 1000) (hg : ∀ i, 0 ≤ g i ∧ g i ≤ 3) : -24000 ≤ est f g n t ∧ est f g n t ≤ 24000 := by
  have h := sumTo_bd (f := fun i => term (f i) (g i) ((dig t i : Int) * 9007199254740992)) (B := 8000) (n := n) (fun i _ => term3_bd (hf i).1 (hf i).2 (hg i).1 (hg i).2)
  unfold est
  omega
theorem total_bd {f : Nat → Int} {n : Nat} (hn : n ≤ 3) (hf : ∀ i, -1000 ≤ f i ∧ f i ≤ 1000) : -3000 ≤ sumTo f n ∧ sumTo f n ≤ 3000 := by
  have h := sumTo_bd (f := f) (B := 1000) (n := n) (fun i _ => hf i)
  omega
theorem sqr_bd {y : Int} (h0 : -30000 ≤ y) (h1 : y ≤ 30000) : 0 ≤ y * y ∧ y * y ≤ 900000000 := by
  rcases Int.le_total 0 y with h | h
  · have h2 := Int.mul_le_mul_of_nonneg_right h1 h
    exact ⟨Int.mul_nonneg h h, by omega⟩
  · have h2 : (-y) * (-y) ≤ 30000 * (-y) := Int.mul_le_mul_of_nonneg_right (by omega) (by omega)
    have h3 := Int.mul_nonneg (show 0 ≤ -y by omega) (show 0 ≤ -y by omega)
    rw [Int.neg_mul_neg] at h2 h3
    exact ⟨h3, by omega⟩
end Eight
end Go.Proofs.Ytfocmnjkoominaa
