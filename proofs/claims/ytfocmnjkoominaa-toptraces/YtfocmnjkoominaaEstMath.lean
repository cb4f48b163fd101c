/- Estimates of totals: what is wrong with the items, the estimate, the spread. Mathematics alone. -/
import Derived.Test.YtfocmnjkoominaaSpanMath
namespace Go.Proofs.Ytfocmnjkoominaa
open Go.ChangeShapes Go.WideShapes Go.ChangeAt Go.RowKit
namespace Est
open Span

def okV (p : Int × Int) : Bool := (decide (-1000000000000 ≤ p.1) && decide (p.1 ≤ 1000000000000)) && (decide (0 ≤ p.2) && decide (p.2 ≤ 20))
theorem okV_iff {p : Int × Int} : okV p = true ↔ -1000000000000 ≤ p.1 ∧ p.1 ≤ 1000000000000 ∧ 0 ≤ p.2 ∧ p.2 ≤ 20 := by
  unfold okV
  simp only [Bool.and_eq_true, decide_eq_true_iff, and_assoc]
theorem okV_no {p : Int × Int} (h : p.1 < -1000000000000 ∨ 1000000000000 < p.1 ∨ p.2 < 0 ∨ 20 < p.2) : okV p = false := by
  rw [← Bool.not_eq_true, okV_iff]
  omega
def okD (r : Int) : Bool := decide (0 ≤ r) && decide (r < 72057594037927936)
theorem okD_iff {r : Int} : okD r = true ↔ 0 ≤ r ∧ r < 72057594037927936 := by
  unfold okD
  simp only [Bool.and_eq_true, decide_eq_true_iff]
theorem okD_no {r : Int} (h : r < 0 ∨ 72057594037927936 ≤ r) : okD r = false := by
  rw [← Bool.not_eq_true, okD_iff]
  omega
theorem all_at {α : Type} {p : α → Bool} {l : List α} {k : Nat} {y : α} (h : l[k]? = some y) : (l.drop k).all p = (p y && (l.drop (k + 1)).all p) := by
  obtain ⟨hk, rfl⟩ := List.getElem?_eq_some_iff.1 h
  rw [List.drop_eq_getElem_cons hk, List.all_cons]
theorem zip_at {v l : List Int} {k : Nat} {x n : Int} (hx : v[k]? = some x) (hn : l[k]? = some n) : (v.zip l)[k]? = some (x, n) := by
  rw [List.getElem?_zip_eq_some]
  exact ⟨hx, hn⟩
/-- what is wrong with the items -/
def itemsE (v l : List Int) : Int := if 40 < v.length ∨ 40 < l.length then 2 else if v.length ≠ l.length then 7 else if (v.zip l).all okV = true then 0 else 1
theorem itemsE_zero {v l : List Int} (h : itemsE v l = 0) : v.length ≤ 40 ∧ l.length = v.length ∧ ∀ (i : Nat) (x n : Int), v[i]? = some x → l[i]? = some n → -1000000000000 ≤ x ∧ x ≤ 1000000000000 ∧ 0 ≤ n ∧ n ≤ 20 := by
  unfold itemsE at h
  split at h
  · cases h
  split at h
  · cases h
  split at h
  · rename_i h1 h2 h3
    refine ⟨by omega, by omega, fun i x n hx hn => ?_⟩
    exact okV_iff.1 (List.all_eq_true.1 h3 (x, n) (List.mem_of_getElem? (zip_at hx hn)))
  · cases h
theorem itemsE_ok {v l : List Int} (h1 : v.length ≤ 40) (h2 : l.length = v.length) (h3 : ∀ (i : Nat) (x n : Int), v[i]? = some x → l[i]? = some n → -1000000000000 ≤ x ∧ x ≤ 1000000000000 ∧ 0 ≤ n ∧ n ≤ 20) : itemsE v l = 0 := by
  unfold itemsE
  rw [if_neg (by omega), if_neg (by omega), if_pos]
  rw [List.all_eq_true]
  rintro ⟨x, n⟩ hm
  obtain ⟨i, hi⟩ := List.getElem?_of_mem hm
  rw [List.getElem?_zip_eq_some] at hi
  exact okV_iff.2 (h3 i x n hi.1 hi.2)
/-- what is wrong with items and draws -/
def sumE (v l d : List Int) : Int := if itemsE v l = 0 then (if d.length ≠ v.length then 7 else if d.all okD = true then 0 else 1) else itemsE v l
/-- what an item counts -/
def term (x n r : Int) : Int := if thr n ≤ r then x * ((2 ^ n.toNat : Nat) : Int) else 0
/-- what the first k items count -/
def estTo (v l d : List Int) : Nat → Int
  | 0 => 0
  | k + 1 => estTo v l d k + (match v[k]?, l[k]?, d[k]? with | some x, some n, some r => term x n r | _, _, _ => 0)
theorem estTo_succ {v l d : List Int} {k : Nat} {x n r : Int} (hx : v[k]? = some x) (hn : l[k]? = some n) (hr : d[k]? = some r) : estTo v l d (k + 1) = estTo v l d k + term x n r := by
  rw [estTo, hx, hn, hr]
theorem term_yes {x n r : Int} (h : thr n ≤ r) : term x n r = x * ((2 ^ n.toNat : Nat) : Int) := if_pos h
theorem term_no {x n r : Int} (h : ¬ thr n ≤ r) : term x n r = 0 := if_neg h
/-- the estimate, as the machine has it -/
def sumR (v l d : List Int) : Int := if sumE v l d = 0 then wrap64 (estTo v l d v.length) else 0
theorem wrap_add (S x : Int) : wrap64 (wrap64 S + x) = wrap64 (S + x) := by unfold wrap64; omega
theorem wrap_id {x : Int} (h0 : -9223372036854775808 ≤ x) (h1 : x ≤ 9223372036854775807) : wrap64 x = x := by unfold wrap64; omega
theorem wrap_bd (x : Int) : -9223372036854775808 ≤ wrap64 x ∧ wrap64 x ≤ 9223372036854775807 := by unfold wrap64; omega
theorem pow_bd (n : Nat) (hn : n ≤ 20) : 1 ≤ 2 ^ n ∧ 2 ^ n ≤ 1048576 := by
  have h1 : 2 ^ n ≤ 2 ^ 20 := Nat.pow_le_pow_right (by decide) hn
  have h2 : 0 < 2 ^ n := Nat.pow_pos (by decide)
  generalize 2 ^ n = p at *
  omega
theorem mul_bd {x p B C : Int} (h0 : -B ≤ x) (h1 : x ≤ B) (p0 : 0 ≤ p) (p1 : p ≤ C) (hB : 0 ≤ B) : -(B * C) ≤ x * p ∧ x * p ≤ B * C := by
  have a1 : x * p ≤ B * p := Int.mul_le_mul_of_nonneg_right h1 p0
  have a2 : B * p ≤ B * C := Int.mul_le_mul_of_nonneg_left p1 hB
  have a3 : -B * p ≤ x * p := Int.mul_le_mul_of_nonneg_right h0 p0
  rw [Int.neg_mul] at a3
  omega
/-- the spread of an item -/
def wide (x n : Int) : Int := x * x * (((2 ^ n.toNat : Nat) : Int) - 1)
def wideTo (v l : List Int) : Nat → Int
  | 0 => 0
  | k + 1 => wideTo v l k + (match v[k]?, l[k]? with | some x, some n => wide x n | _, _ => 0)
theorem wideTo_succ {v l : List Int} {k : Nat} {x n : Int} (hx : v[k]? = some x) (hn : l[k]? = some n) : wideTo v l (k + 1) = wideTo v l k + wide x n := by
  rw [wideTo, hx, hn]
def okM (x : Int) : Bool := decide (-1000000 ≤ x) && decide (x ≤ 1000000)
theorem okM_iff {x : Int} : okM x = true ↔ -1000000 ≤ x ∧ x ≤ 1000000 := by
  unfold okM
  simp only [Bool.and_eq_true, decide_eq_true_iff]
theorem okM_no {x : Int} (h : x < -1000000 ∨ 1000000 < x) : okM x = false := by
  rw [← Bool.not_eq_true, okM_iff]
  omega
theorem sq_bd {x : Int} (h0 : -1000000 ≤ x) (h1 : x ≤ 1000000) : 0 ≤ x * x ∧ x * x ≤ 1000000000000 := by
  rcases Int.le_total 0 x with h | h
  · have h2 := Int.mul_le_mul_of_nonneg_right h1 h
    exact ⟨Int.mul_nonneg h h, by omega⟩
  · have h2 : (-x) * (-x) ≤ 1000000 * (-x) := Int.mul_le_mul_of_nonneg_right (by omega) (by omega)
    have h3 := Int.mul_nonneg (show 0 ≤ -x by omega) (show 0 ≤ -x by omega)
    rw [Int.neg_mul_neg] at h2 h3
    exact ⟨h3, by omega⟩
theorem wide_bd {x n : Int} (h0 : -1000000 ≤ x) (h1 : x ≤ 1000000) (hn : n ≤ 20) : 0 ≤ wide x n ∧ wide x n ≤ 1048575000000000000 := by
  have hs := sq_bd h0 h1
  have hp := pow_bd n.toNat (by omega)
  unfold wide
  generalize x * x = s at *
  generalize 2 ^ n.toNat = p at *
  have a1 : s * ((p : Int) - 1) ≤ 1000000000000 * ((p : Int) - 1) := Int.mul_le_mul_of_nonneg_right hs.2 (by omega)
  exact ⟨Int.mul_nonneg hs.1 (by omega), by omega⟩
theorem wideTo_mono {v l : List Int} (hv : ∀ x ∈ v, -1000000 ≤ x ∧ x ≤ 1000000) (hl : ∀ n ∈ l, n ≤ 20) (k : Nat) : wideTo v l k ≤ wideTo v l (k + 1) := by
  rw [wideTo]
  split
  · rename_i x n hx hn
    have hx' := hv x (List.mem_of_getElem? hx)
    have := wide_bd hx'.1 hx'.2 (hl n (List.mem_of_getElem? hn))
    omega
  · omega
theorem wideTo_le {v l : List Int} (hv : ∀ x ∈ v, -1000000 ≤ x ∧ x ≤ 1000000) (hl : ∀ n ∈ l, n ≤ 20) {i : Nat} : ∀ {j : Nat}, i ≤ j → wideTo v l i ≤ wideTo v l j
  | 0, h => by obtain rfl : i = 0 := by omega
               exact Int.le_refl _
  | j + 1, h => by
    by_cases e : i = j + 1
    · rw [e]; exact Int.le_refl _
    · exact Int.le_trans (wideTo_le hv hl (j := j) (by omega)) (wideTo_mono hv hl j)
/-- what is wrong with the items of a spread -/
def spreadE (v l : List Int) : Int := if itemsE v l = 0 then (if v.all okM = true then (if 1152921504606846976 < wideTo v l v.length then 2 else 0) else 1) else itemsE v l
def spreadR (v l : List Int) : Int := if spreadE v l = 0 then wideTo v l v.length else 0
theorem levels_of {v l : List Int} (h : itemsE v l = 0) : ∀ n ∈ l, 0 ≤ n ∧ n ≤ 20 := by
  obtain ⟨h1, h2, h3⟩ := itemsE_zero h
  intro n hn
  obtain ⟨i, hi⟩ := List.getElem?_of_mem hn
  obtain ⟨x, hx⟩ : ∃ x, v[i]? = some x := ⟨_, List.getElem?_eq_getElem (by have := (List.getElem?_eq_some_iff.1 hi).1; omega)⟩
  exact (h3 i x n hx hi).2.2
end Est
end Go.Proofs.Ytfocmnjkoominaa
