/- Sets of numbers, and what an order puts first of one. Mathematics alone. -/
import Derived.Test.YtoijeafhohcbdaaDigitCheck
import Derived.Lib.Small
namespace Go.Proofs.Ytoijeafhohcbdaa
namespace Alk
open Digit

/-- what is wrong with the numbers behind one -/
def goS (n : Nat) : Int → List Int → Int
  | _, [] => 0
  | last, x :: r => if x < 0 ∨ (n : Int) ≤ x then 1 else if x ≤ last then 3 else goS n x r
def setE (n : Nat) (l : List Int) : Int := if n < l.length then 2 else if goS n (-1) l ≠ 0 then goS n (-1) l else if l = [] then 4 else 0
def lastS (l : List Int) (k : Nat) : Int := match k with | 0 => -1 | k + 1 => match l[k]? with | some y => y | none => -1
theorem lastS_succ {l : List Int} {k : Nat} {y : Int} (h : l[k]? = some y) : lastS l (k + 1) = y := by unfold lastS; simp only [h]
theorem goS_at {n : Nat} {l : List Int} {last : Int} {k : Nat} {y : Int} (h : l[k]? = some y) : goS n last (l.drop k) = if y < 0 ∨ (n : Int) ≤ y then 1 else if y ≤ last then 3 else goS n y (l.drop (k + 1)) := by
  obtain ⟨hk, rfl⟩ := List.getElem?_eq_some_iff.1 h
  rw [List.drop_eq_getElem_cons hk, goS]
theorem goS_zero {n : Nat} : ∀ {l : List Int} {last : Int}, goS n last l = 0 → Up (last :: l) ∧ ∀ y ∈ l, 0 ≤ y ∧ y < n
  | [], _, _ => ⟨by simp [Up], by simp⟩
  | x :: l, last, h => by
    rw [goS] at h
    split at h
    · cases h
    · split at h
      · cases h
      · obtain ⟨h1, h2⟩ := goS_zero h
        refine ⟨?_, fun y hy => ?_⟩
        · unfold Up at h1 ⊢
          rw [List.pairwise_cons]
          refine ⟨fun y hy => ?_, h1⟩
          rcases List.mem_cons.1 hy with rfl | hy
          · omega
          · have := (List.pairwise_cons.1 h1).1 y hy; omega
        · rcases List.mem_cons.1 hy with rfl | hy
          · omega
          · exact h2 y hy
theorem goS_ok {n : Nat} : ∀ {l : List Int} {last : Int}, Up (last :: l) → (∀ y ∈ l, 0 ≤ y ∧ y < n) → goS n last l = 0
  | [], _, _, _ => rfl
  | x :: l, last, hu, hr => by
    have h1 := hr x (List.mem_cons_self ..)
    unfold Up at hu
    rw [List.pairwise_cons] at hu
    have h2 := hu.1 x (List.mem_cons_self ..)
    rw [goS, if_neg (by omega), if_neg (by omega)]
    exact goS_ok hu.2 (fun y hy => hr y (List.mem_cons_of_mem _ hy))
theorem setE_zero {n : Nat} {l : List Int} (h : setE n l = 0) : l.length ≤ n ∧ l ≠ [] ∧ Up l ∧ ∀ y ∈ l, 0 ≤ y ∧ y < n := by
  unfold setE at h
  split at h
  · cases h
  · split at h
    · omega
    · split at h
      · cases h
      · obtain ⟨h1, h2⟩ := goS_zero (n := n) (l := l) (last := -1) (by omega)
        exact ⟨by omega, by assumption, (List.pairwise_cons.1 h1).2, h2⟩
theorem up_cons {l : List Int} (h : Up l) (h2 : ∀ y ∈ l, 0 ≤ y) : Up (-1 :: l) := by
  unfold Up
  rw [List.pairwise_cons]
  exact ⟨fun y hy => by have := h2 y hy; omega, h⟩
theorem setE_ok {n : Nat} {l : List Int} (h1 : l.length ≤ n) (h2 : l ≠ []) (h3 : Up l) (h4 : ∀ y ∈ l, 0 ≤ y ∧ y < n) : setE n l = 0 := by
  unfold setE
  rw [if_neg (by omega), goS_ok (up_cons h3 (fun y hy => (h4 y hy).1)) h4, if_neg (by omega), if_neg h2]

/-! ### the first -/
/-- the least by a comparison, the first of such -/
def minC (c : Int → Int → Int) : List Int → Int
  | [] => 0
  | x :: r => r.foldl (fun m y => if c y m < 0 then y else m) x
theorem minC_one (c : Int → Int → Int) {l : List Int} {x : Int} (h : l[0]? = some x) : minC c (l.take 1) = x := by
  cases l with
  | nil => cases h
  | cons y l => simp at h; subst h; simp [minC]
theorem minC_succ (c : Int → Int → Int) {l : List Int} {k : Nat} {y : Int} (hk : 1 ≤ k) (h : l[k]? = some y) : minC c (l.take (k + 1)) = if c y (minC c (l.take k)) < 0 then y else minC c (l.take k) := by
  cases l with
  | nil => cases h
  | cons x l =>
    obtain ⟨j, rfl⟩ : ∃ j, k = j + 1 := ⟨k - 1, by omega⟩
    rw [List.getElem?_cons_succ] at h
    rw [List.take_succ_cons, List.take_succ_cons, List.take_add_one, h, Option.toList_some]
    simp only [minC]
    rw [List.foldl_append]
    rfl
theorem minC_spec {c : Int → Int → Int} {f : Int → Int} (hc : ∀ x y, c x y < 0 ↔ f x < f y) : ∀ {l : List Int} (k : Nat), 1 ≤ k → k ≤ l.length → minC c (l.take k) ∈ l ∧ ∀ y ∈ l.take k, f (minC c (l.take k)) ≤ f y
  | l, 0, h, _ => by omega
  | l, 1, _, h2 => by
    obtain ⟨x, hx⟩ : ∃ x, l[0]? = some x := ⟨_, List.getElem?_eq_getElem (by omega)⟩
    rw [minC_one c hx]
    refine ⟨List.mem_of_getElem? hx, fun y hy => ?_⟩
    rw [List.take_add_one, hx] at hy
    simp at hy
    rw [hy]
    exact Int.le_refl _
  | l, k + 2, _, h2 => by
    obtain ⟨x, hx⟩ : ∃ x, l[k + 1]? = some x := ⟨_, List.getElem?_eq_getElem (by omega)⟩
    obtain ⟨i1, i2⟩ := minC_spec hc (l := l) (k + 1) (by omega) (by omega)
    rw [minC_succ c (by omega) hx]
    have e : l.take (k + 1 + 1) = l.take (k + 1) ++ [x] := by rw [List.take_add_one, hx]; rfl
    by_cases h : c x (minC c (l.take (k + 1))) < 0
    · rw [if_pos h]
      have h3 := (hc _ _).1 h
      refine ⟨List.mem_of_getElem? hx, fun y hy => ?_⟩
      rw [e, List.mem_append] at hy
      rcases hy with hy | hy
      · have := i2 y hy; omega
      · rw [List.mem_singleton.1 hy]; exact Int.le_refl _
    · rw [if_neg h]
      have h3 : ¬ f x < f (minC c (l.take (k + 1))) := fun h4 => h ((hc _ _).2 h4)
      refine ⟨i1, fun y hy => ?_⟩
      rw [e, List.mem_append] at hy
      rcases hy with hy | hy
      · exact i2 y hy
      · rw [List.mem_singleton.1 hy]; omega
/-- the position that an order gives -/
def atO (o : List Int) (y : Int) : Int := (o[y.toNat]?).getD 0
def cmpO (o : List Int) (x y : Int) : Int := Lib.compareInt (atO o x) (atO o y)
theorem cmpO_lt (o : List Int) (x y : Int) : cmpO o x y < 0 ↔ atO o x < atO o y := by
  unfold cmpO Lib.compareInt
  split
  · constructor
    · intro; assumption
    · intro; omega
  · split
    · constructor
      · intro; omega
      · intro; omega
    · constructor
      · intro; omega
      · intro; omega
/-- the element that comes first -/
def firstV (o l : List Int) : Int := minC (cmpO o) l
theorem firstV_spec {o l : List Int} (h : l ≠ []) : firstV o l ∈ l ∧ ∀ y ∈ l, atO o (firstV o l) ≤ atO o y := by
  have hl : 1 ≤ l.length := by cases l with | nil => exact absurd rfl h | cons _ _ => simp
  have := minC_spec (cmpO_lt o) (l := l) l.length hl (Nat.le_refl _)
  rw [List.take_length] at this
  exact this
theorem atO_inj {o : List Int} (ho : Ok o) {x y : Int} (hx : 0 ≤ x ∧ x < o.length) (hy : 0 ≤ y ∧ y < o.length) (h : atO o x = atO o y) : x = y := by
  unfold atO at h
  rw [List.getElem?_eq_getElem (show x.toNat < o.length by omega), List.getElem?_eq_getElem (show y.toNat < o.length by omega), Option.getD_some, Option.getD_some] at h
  have := (List.getElem_inj ho.1).1 h
  omega
theorem firstV_uniq {o l : List Int} (ho : Ok o) (hl : ∀ y ∈ l, 0 ≤ y ∧ y < o.length) {z : Int} (hz : z ∈ l) (h : ∀ y ∈ l, atO o z ≤ atO o y) : firstV o l = z := by
  have hne : l ≠ [] := by intro h0; rw [h0] at hz; cases hz
  obtain ⟨h1, h2⟩ := firstV_spec (o := o) hne
  exact atO_inj ho (hl _ h1) (hl _ hz) (by have a := h2 z hz; have b := h _ h1; omega)
def firstE (o l : List Int) : Int := if checkD o ≠ 0 then checkD o else setE o.length l
theorem firstE_zero {o l : List Int} (h : firstE o l = 0) : checkD o = 0 ∧ setE o.length l = 0 := by
  unfold firstE at h
  split at h
  · omega
  · exact ⟨by omega, h⟩
/-- what First answers -/
def firstR (o l : List Int) : Int := if firstE o l = 0 then firstV o l else 0

/-! ### signatures -/
def goG (l : List Int) : List (List Int) → Int
  | [] => 0
  | o :: r => if firstE o l ≠ 0 then firstE o l else goG l r
def signE (os : List (List Int)) (l : List Int) : Int := if 40 < os.length then 2 else goG l os
theorem goG_at {l : List Int} {os : List (List Int)} {k : Nat} {o : List Int} (h : os[k]? = some o) : goG l (os.drop k) = if firstE o l ≠ 0 then firstE o l else goG l (os.drop (k + 1)) := by
  obtain ⟨hk, rfl⟩ := List.getElem?_eq_some_iff.1 h
  rw [List.drop_eq_getElem_cons hk, goG]
theorem goG_zero {l : List Int} : ∀ {os : List (List Int)}, goG l os = 0 ↔ ∀ o ∈ os, firstE o l = 0
  | [] => by simp [goG]
  | o :: r => by
    rw [goG]
    by_cases h : firstE o l ≠ 0
    · rw [if_pos h]
      constructor
      · intro h2; exact absurd h2 h
      · intro h2; exact absurd (h2 o (List.mem_cons_self ..)) h
    · rw [if_neg h, goG_zero]
      constructor
      · intro h2 x hx
        rcases List.mem_cons.1 hx with rfl | hx
        · omega
        · exact h2 x hx
      · intro h2 x hx; exact h2 x (List.mem_cons_of_mem _ hx)
def signL (os : List (List Int)) (l : List Int) : List Int := os.map (fun o => firstV o l)
/-- at how many places two lists are the same -/
def sameTo (a b : List Int) : Nat → Nat
  | 0 => 0
  | k + 1 => sameTo a b k + if (a[k]?).getD 0 = (b[k]?).getD 0 then 1 else 0
theorem sameTo_le (a b : List Int) : ∀ k, sameTo a b k ≤ k
  | 0 => Nat.le_refl _
  | k + 1 => by rw [sameTo]; have := sameTo_le a b k; split <;> omega
theorem sameTo_comm (a b : List Int) : ∀ k, sameTo a b k = sameTo b a k
  | 0 => rfl
  | k + 1 => by rw [sameTo, sameTo, sameTo_comm a b k]; simp only [eq_comm]
theorem sameTo_self (a : List Int) : ∀ k, sameTo a a k = k
  | 0 => rfl
  | k + 1 => by rw [sameTo, sameTo_self a k, if_pos rfl]
theorem sameTo_none {a b : List Int} : ∀ {k : Nat}, (∀ i, i < k → (a[i]?).getD 0 ≠ (b[i]?).getD 0) → sameTo a b k = 0
  | 0, _ => rfl
  | k + 1, h => by rw [sameTo, sameTo_none (fun i hi => h i (by omega)), if_neg (h k (by omega))]
def sameE (n m : Nat) : Int := if 40 < n ∨ 40 < m then 2 else if n ≠ m then 7 else 0
end Alk
end Go.Proofs.Ytoijeafhohcbdaa
