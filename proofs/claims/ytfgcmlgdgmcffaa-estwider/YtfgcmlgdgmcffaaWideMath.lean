/- Spreads of lists told by a function of the place: small ones are what they are; how they grow and scale. Mathematics alone. -/
import Derived.Test.YtfgcmlgdgmcffaaOwnSpot
namespace Go.Proofs.Ytfgcmlgdgmcffaa
open Go.ChangeShapes Go.WideShapes Go.ChangeAt Go.RowKit
open Est Span

theorem pow_le {a b : Nat} (h : a ≤ b) : ((2 ^ a : Nat) : Int) ≤ ((2 ^ b : Nat) : Int) := Int.ofNat_le.2 (Nat.pow_le_pow_right (by decide) h)
theorem sq_small {x B : Int} (h0 : -B ≤ x) (h1 : x ≤ B) : 0 ≤ x * x ∧ x * x ≤ B * B := by
  rcases Int.le_total 0 x with h | h
  · exact ⟨Int.mul_nonneg h h, Int.mul_le_mul h1 h1 h (by omega)⟩
  · have h2 : (-x) * (-x) ≤ B * B := Int.mul_le_mul (by omega) (by omega) (by omega) (by omega)
    have h3 := Int.mul_nonneg (show 0 ≤ -x by omega) (show 0 ≤ -x by omega)
    rw [Int.neg_mul_neg] at h2 h3
    exact ⟨h3, h2⟩
theorem wide_small {x n : Int} (h0 : -20000 ≤ x) (h1 : x ≤ 20000) (hn : n ≤ 10) : 0 ≤ wide x n ∧ wide x n ≤ 409200000000 := by
  have hs := sq_small (B := 20000) (by omega) h1
  have hp := pow_bd n.toNat (by omega)
  have hq := pow_le (show n.toNat ≤ 10 by omega)
  rw [show ((2 ^ 10 : Nat) : Int) = 1024 from rfl] at hq
  unfold wide
  generalize x * x = s at *
  generalize 2 ^ n.toNat = p at *
  have a1 : s * ((p : Int) - 1) ≤ 400000000 * ((p : Int) - 1) := Int.mul_le_mul_of_nonneg_right hs.2 (by omega)
  exact ⟨Int.mul_nonneg hs.1 (by omega), by omega⟩
theorem spread_listTo {f g : Nat → Int} {n : Nat} (hn : n ≤ 40) (hf : ∀ i, i < n → -20000 ≤ f i ∧ f i ≤ 20000) (hg : ∀ i, i < n → 0 ≤ g i ∧ g i ≤ 10) :
    spreadE (listTo f n) (listTo g n) = 0 ∧ spreadR (listTo f n) (listTo g n) = sumTo (fun i => wide (f i) (g i)) n ∧ 0 ≤ sumTo (fun i => wide (f i) (g i)) n ∧ sumTo (fun i => wide (f i) (g i)) n ≤ (n : Int) * 409200000000 := by
  have hb := sumTo_bd (f := fun i => wide (f i) (g i)) (B := 409200000000) (n := n) (fun i hi => by have := wide_small (hf i hi).1 (hf i hi).2 (hg i hi).2; omega)
  have h0 := sumTo_le (f := fun _ => 0) (g := fun i => wide (f i) (g i)) (n := n) (fun i hi => (wide_small (hf i hi).1 (hf i hi).2 (hg i hi).2).1)
  rw [sumTo_zero] at h0
  have hw := wideTo_listTo f g n n (Nat.le_refl _)
  have hE : spreadE (listTo f n) (listTo g n) = 0 := by
    unfold spreadE
    rw [if_pos (items_listTo hn (fun i hi => by have := hf i hi; omega) (fun i hi => by have := hg i hi; omega)), if_pos, if_neg]
    · rw [listTo_len, hw]; omega
    · rw [List.all_eq_true]
      intro x hx
      obtain ⟨i, hi, rfl⟩ := listTo_mem hx
      exact okM_iff.2 (by have := hf i hi; omega)
  refine ⟨hE, ?_, h0, hb.2⟩
  unfold spreadR
  rw [if_pos hE, listTo_len, hw]
theorem wide_mono {x n m : Int} (h : n ≤ m) : wide x n ≤ wide x m := by
  unfold wide
  have hq := pow_le (show n.toNat ≤ m.toNat by omega)
  have hs : 0 ≤ x * x := by
    rcases Int.le_total 0 x with h | h
    · exact Int.mul_nonneg h h
    · rw [← Int.neg_mul_neg]; exact Int.mul_nonneg (by omega) (by omega)
  exact Int.mul_le_mul_of_nonneg_left (by omega) hs
theorem wide_zero (x : Int) : wide x 0 = 0 := by simp [wide]
theorem wide_scale (x t n : Int) : wide (x * t) n = wide x n * t * t := by
  unfold wide
  generalize (((2 ^ n.toNat : Nat) : Int) - 1) = p
  rw [show x * t * (x * t) = x * x * (t * t) by simp only [Int.mul_assoc, Int.mul_left_comm], Int.mul_assoc (x * x * p), Int.mul_assoc (x * x), Int.mul_assoc (x * x), Int.mul_comm (t * t)]
end Go.Proofs.Ytfgcmlgdgmcffaa
