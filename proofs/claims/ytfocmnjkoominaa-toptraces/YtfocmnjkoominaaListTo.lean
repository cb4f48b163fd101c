/- Lists that are told by a function of the place, and estimates over them. Mathematics alone. -/
import Derived.Test.YtfocmnjkoominaaEstMath
import Derived.Test.YtfocmnjkoominaaSpanSums
import Derived.Test.YtfocmnjkoominaaWithin
namespace Go.Proofs.Ytfocmnjkoominaa
open Go.ChangeShapes Go.WideShapes Go.ChangeAt Go.RowKit
open Est Span

def listTo (f : Nat → Int) (n : Nat) : List Int := (List.range n).map f
theorem listTo_zero (f : Nat → Int) : listTo f 0 = [] := rfl
theorem listTo_succ (f : Nat → Int) (n : Nat) : listTo f (n + 1) = listTo f n ++ [f n] := by simp [listTo, List.range_succ]
theorem listTo_len (f : Nat → Int) (n : Nat) : (listTo f n).length = n := by simp [listTo]
theorem listTo_get {f : Nat → Int} {n i : Nat} (h : i < n) : (listTo f n)[i]? = some (f i) := by simp [listTo, h]
theorem listTo_at {f : Nat → Int} {n i : Nat} {x : Int} (h : (listTo f n)[i]? = some x) : i < n ∧ x = f i := by
  have hi := (List.getElem?_eq_some_iff.1 h).1
  rw [listTo_len] at hi
  rw [listTo_get hi, Option.some.injEq] at h
  exact ⟨hi, h.symm⟩
theorem listTo_mem {f : Nat → Int} {n : Nat} {x : Int} (h : x ∈ listTo f n) : ∃ i, i < n ∧ x = f i := by
  obtain ⟨i, hi⟩ := List.getElem?_of_mem h
  exact ⟨i, listTo_at hi⟩
theorem listTo_congr {f g : Nat → Int} {n : Nat} (h : ∀ i, i < n → f i = g i) : listTo f n = listTo g n := by
  apply List.ext_getElem?
  intro i
  by_cases hi : i < n
  · rw [listTo_get hi, listTo_get hi, h i hi]
  · rw [List.getElem?_eq_none (by rw [listTo_len]; omega), List.getElem?_eq_none (by rw [listTo_len]; omega)]
theorem listTo_sum (f : Nat → Int) : ∀ n, (listTo f n).sum = sumTo f n
  | 0 => rfl
  | n + 1 => by rw [listTo_succ, List.sum_append, listTo_sum f n, sumTo]; simp
theorem sumTo_congr {f g : Nat → Int} : ∀ {n : Nat}, (∀ i, i < n → f i = g i) → sumTo f n = sumTo g n
  | 0, _ => rfl
  | n + 1, h => by rw [sumTo, sumTo, sumTo_congr (n := n) (fun i hi => h i (by omega)), h n (by omega)]
theorem sumTo_zero : ∀ n : Nat, sumTo (fun _ => 0) n = 0
  | 0 => rfl
  | n + 1 => by rw [sumTo, sumTo_zero n]; rfl
theorem sumTo_bd {f : Nat → Int} {B : Int} : ∀ {n : Nat}, (∀ i, i < n → -B ≤ f i ∧ f i ≤ B) → -((n : Int) * B) ≤ sumTo f n ∧ sumTo f n ≤ (n : Int) * B
  | 0, _ => by simp [sumTo]
  | n + 1, h => by
    have h1 := sumTo_bd (n := n) (fun i hi => h i (by omega))
    have h2 := h n (by omega)
    rw [sumTo]
    have e : ((n + 1 : Nat) : Int) * B = (n : Int) * B + B := by rw [Int.natCast_add, Int.add_mul]; simp
    rw [e]
    omega
theorem estTo_listTo (f g h : Nat → Int) (n : Nat) : ∀ k, k ≤ n → estTo (listTo f n) (listTo g n) (listTo h n) k = sumTo (fun i => term (f i) (g i) (h i)) k
  | 0, _ => rfl
  | k + 1, hk => by rw [estTo_succ (listTo_get (by omega)) (listTo_get (by omega)) (listTo_get (by omega)), estTo_listTo f g h n k (by omega), sumTo]
theorem wideTo_listTo (f g : Nat → Int) (n : Nat) : ∀ k, k ≤ n → wideTo (listTo f n) (listTo g n) k = sumTo (fun i => wide (f i) (g i)) k
  | 0, _ => rfl
  | k + 1, hk => by rw [wideTo_succ (listTo_get (by omega)) (listTo_get (by omega)), wideTo_listTo f g n k (by omega), sumTo]
theorem items_listTo {f g : Nat → Int} {n : Nat} (hn : n ≤ 40) (hf : ∀ i, i < n → -1000000000000 ≤ f i ∧ f i ≤ 1000000000000) (hg : ∀ i, i < n → 0 ≤ g i ∧ g i ≤ 20) : itemsE (listTo f n) (listTo g n) = 0 := by
  refine itemsE_ok (by rw [listTo_len]; exact hn) (by rw [listTo_len, listTo_len]) (fun i x m hx hm => ?_)
  obtain ⟨hi, rfl⟩ := listTo_at hx
  obtain ⟨_, rfl⟩ := listTo_at hm
  have h1 := hf i hi
  have h2 := hg i hi
  omega
theorem sumE_listTo {f g h : Nat → Int} {n : Nat} (hn : n ≤ 40) (hf : ∀ i, i < n → -1000000000000 ≤ f i ∧ f i ≤ 1000000000000) (hg : ∀ i, i < n → 0 ≤ g i ∧ g i ≤ 20) (hh : ∀ i, i < n → 0 ≤ h i ∧ h i < 72057594037927936) : sumE (listTo f n) (listTo g n) (listTo h n) = 0 := by
  unfold sumE
  rw [if_pos (items_listTo hn hf hg), if_neg (by rw [listTo_len, listTo_len]; simp), if_pos]
  rw [List.all_eq_true]
  intro r hr
  obtain ⟨i, hi, rfl⟩ := listTo_mem hr
  exact okD_iff.2 (hh i hi)
theorem term_bd {x n r B : Int} (h0 : -B ≤ x) (h1 : x ≤ B) (hB : 0 ≤ B) (hn : n ≤ 20) : -(B * 1048576) ≤ term x n r ∧ term x n r ≤ B * 1048576 := by
  have hp := pow_bd n.toNat (by omega)
  unfold term
  split
  · generalize 2 ^ n.toNat = p at *
    exact mul_bd h0 h1 (by omega) (by omega) hB
  · omega
/-- the estimate of small values, as it is -/
theorem sumR_listTo {f g h : Nat → Int} {n : Nat} {B : Int} (hn : n ≤ 40) (hB0 : 0 ≤ B) (hB : B ≤ 100000) (hf : ∀ i, i < n → -B ≤ f i ∧ f i ≤ B) (hg : ∀ i, i < n → 0 ≤ g i ∧ g i ≤ 20) (hh : ∀ i, i < n → 0 ≤ h i ∧ h i < 72057594037927936) :
    sumR (listTo f n) (listTo g n) (listTo h n) = sumTo (fun i => term (f i) (g i) (h i)) n := by
  unfold sumR
  rw [if_pos (sumE_listTo hn (fun i hi => by have := hf i hi; omega) hg hh), listTo_len, estTo_listTo f g h n n (Nat.le_refl _)]
  have hb := sumTo_bd (f := fun i => term (f i) (g i) (h i)) (B := B * 1048576) (n := n) (fun i hi => term_bd (hf i hi).1 (hf i hi).2 hB0 (hg i hi).2)
  have h1 : (n : Int) * (B * 1048576) ≤ 40 * (B * 1048576) := Int.mul_le_mul_of_nonneg_right (by omega) (by omega)
  exact wrap_id (by omega) (by omega)
/-- the values that numbers make -/
def worthAt (l : List Int) (i : Nat) : Int := match l[i]? with | some x => withI x 2001 - 1000 | none => 0
def levelAt (most : Int) (l : List Int) (i : Nat) : Int := match l[i]? with | some x => withI x (most + 1) | none => 0
def drawAt (l : List Int) (i : Nat) : Int := match l[i]? with | some x => withI x 72057594037927936 | none => 0
theorem worthAt_some {l : List Int} {i : Nat} {x : Int} (h : l[i]? = some x) : worthAt l i = withI x 2001 - 1000 := by unfold worthAt; rw [h]
theorem levelAt_some {most : Int} {l : List Int} {i : Nat} {x : Int} (h : l[i]? = some x) : levelAt most l i = withI x (most + 1) := by unfold levelAt; rw [h]
theorem levelAt_none {most : Int} {l : List Int} {i : Nat} (h : l.length ≤ i) : levelAt most l i = 0 := by unfold levelAt; rw [List.getElem?_eq_none h]
theorem drawAt_some {l : List Int} {i : Nat} {x : Int} (h : l[i]? = some x) : drawAt l i = withI x 72057594037927936 := by unfold drawAt; rw [h]
theorem drawAt_none {l : List Int} {i : Nat} (h : l.length ≤ i) : drawAt l i = 0 := by unfold drawAt; rw [List.getElem?_eq_none h]
theorem worthAt_bd (l : List Int) (i : Nat) : -1000 ≤ worthAt l i ∧ worthAt l i ≤ 1000 := by
  unfold worthAt; split
  · have := withI_bd (by assumption) 2001 (by omega); omega
  · omega
theorem levelAt_bd {most : Int} (hm : 0 ≤ most) (l : List Int) (i : Nat) : 0 ≤ levelAt most l i ∧ levelAt most l i ≤ most := by
  unfold levelAt; split
  · have := withI_bd (by assumption) (most + 1) (by omega); omega
  · omega
theorem drawAt_bd (l : List Int) (i : Nat) : 0 ≤ drawAt l i ∧ drawAt l i < 72057594037927936 := by
  unfold drawAt; split
  · exact withI_bd _ _ (by omega)
  · omega
theorem thr_zero : thr 0 = 0 := by decide
theorem thr_one : thr 1 = 36028797018963968 := by decide
theorem term_zero {x r : Int} (h : 0 ≤ r) : term x 0 r = x := by
  rw [term_yes (by rw [thr_zero]; exact h)]
  simp
theorem term_low {x r : Int} (h : r < 36028797018963968) : term x 1 r = 0 := term_no (by rw [thr_one]; omega)
theorem term_add (x y n r : Int) : term (x + y) n r = term x n r + term y n r := by
  unfold term
  split
  · rw [Int.add_mul]
  · rfl
end Go.Proofs.Ytfocmnjkoominaa
