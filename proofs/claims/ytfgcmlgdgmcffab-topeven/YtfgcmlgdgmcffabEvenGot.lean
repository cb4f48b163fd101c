/- What the indices got over the starts below one, start by start and index by index. Mathematics alone. -/
import Derived.Test.YtfgcmlgdgmcffabEvenMath
import Derived.Test.YtfgcmlgdgmcffabWeightsMath
namespace Go.Proofs.Ytfgcmlgdgmcffab
open Go.ChangeShapes Go.WideShapes Go.ChangeAt Go.RowKit
open Cum
namespace Got
/-- what the indices got: of the starts below t all, and of start t the first c indices -/
def gotL (l : List Int) (k t c : Nat) : List Int := (List.range l.length).map (fun i => if i < c then gotI l k (t + 1) i else gotI l k t i)
theorem gotL_len (l : List Int) (k t c : Nat) : (gotL l k t c).length = l.length := by simp [gotL]
theorem gotL_get {l : List Int} {k t c i : Nat} (h : i < l.length) : (gotL l k t c)[i]? = some (if i < c then gotI l k (t + 1) i else gotI l k t i) := by simp [gotL, h]
theorem gotL_start {l : List Int} {k : Nat} : gotL l k 0 0 = List.replicate l.length 0 := by
  apply List.ext_getElem?
  intro i
  by_cases h : i < l.length
  · rw [gotL_get h, if_neg (by omega), gotI_zero, List.getElem?_replicate, if_pos h]
  · rw [List.getElem?_eq_none (by rw [gotL_len]; omega), List.getElem?_eq_none (by rw [List.length_replicate]; omega)]
theorem gotL_next {l : List Int} {k t : Nat} : gotL l k t l.length = gotL l k (t + 1) 0 := by
  apply List.ext_getElem?
  intro i
  by_cases h : i < l.length
  · rw [gotL_get h, gotL_get h, if_pos h, if_neg (by omega)]
  · rw [List.getElem?_eq_none (by rw [gotL_len]; omega), List.getElem?_eq_none (by rw [gotL_len]; omega)]
theorem gotL_set {l : List Int} {k t c : Nat} {y m : Int} (hz : ∀ x ∈ l, 0 ≤ x) (ht : (t : Int) < l.sum) (hy : (gotL l k t c)[c]? = some y) (hm : (evenL l k t)[c]? = some m) : (gotL l k t c).set c (y + m) = gotL l k t (c + 1) := by
  have hc : c < l.length := by have := (List.getElem?_eq_some_iff.1 hy).1; rwa [gotL_len] at this
  rw [gotL_get hc, if_neg (by omega), Option.some.injEq] at hy
  apply List.ext_getElem?
  intro i
  by_cases h : i < l.length
  · rw [List.getElem?_set, gotL_get h, gotL_get h]
    by_cases e : c = i
    · subst e
      rw [if_pos rfl, if_pos (by rw [gotL_len]; exact h), if_pos (by omega), gotI_succ hz ht hm, hy]
    · rw [if_neg e]
      by_cases e2 : i < c
      · rw [if_pos e2, if_pos (by omega)]
      · rw [if_neg e2, if_neg (by omega)]
  · rw [List.getElem?_eq_none (by rw [List.length_set, gotL_len]; omega), List.getElem?_eq_none (by rw [gotL_len]; omega)]
theorem gotI_bd {l : List Int} {k : Nat} (hz : ∀ x ∈ l, 0 ≤ x) {i : Nat} (hi : i < l.length) : ∀ t : Nat, (t : Int) ≤ l.sum → 0 ≤ gotI l k t i ∧ gotI l k t i ≤ (t : Int) * (k : Int)
  | 0, _ => by rw [gotI_zero]; simp
  | t + 1, ht => by
    have ih := gotI_bd (k := k) hz hi t (by omega)
    obtain ⟨m, hm⟩ : ∃ m, (evenL l k t)[i]? = some m := ⟨_, List.getElem?_eq_getElem (by rw [evenL_len]; exact hi)⟩
    have hb := tally_mem (List.mem_of_getElem? hm)
    rw [gotI_succ hz (by omega) hm, show ((t + 1 : Nat) : Int) = (t : Int) + 1 from by omega, Int.add_mul, Int.one_mul]
    omega

/-- the weights of a law: 1, and of each number one from 1 to 9 -/
def nine (l : List Int) : List Int := 1 :: l.map (fun x => 1 + withI x 9)
theorem nine_take {l : List Int} {k : Nat} {x : Int} (h : l[k]? = some x) : nine (l.take (k + 1)) = nine (l.take k) ++ [1 + withI x 9] := by
  obtain ⟨hk, rfl⟩ := List.getElem?_eq_some_iff.1 h
  unfold nine
  rw [List.take_succ_eq_append_getElem hk, List.map_append]
  rfl
theorem nine_len (l : List Int) : (nine l).length = l.length + 1 := by simp [nine]
theorem nine_bd {l : List Int} : ∀ x ∈ nine l, 1 ≤ x ∧ x ≤ 9 := by
  intro x hx
  rcases List.mem_cons.1 hx with rfl | hx
  · omega
  · obtain ⟨y, _, rfl⟩ := List.mem_map.1 hx
    have := withI_bd y 9 (by omega)
    omega
theorem sum_le9 : ∀ l : List Int, (∀ x ∈ l, 1 ≤ x ∧ x ≤ 9) → 0 ≤ l.sum ∧ l.sum ≤ (l.length : Int) * 9 := by
  intro l
  induction l with
  | nil => intro _; simp
  | cons x l ih =>
    intro h
    have h1 := ih (fun y hy => h y (List.mem_cons_of_mem _ hy))
    have h2 := h x (by simp)
    rw [List.sum_cons, List.length_cons]
    omega
theorem nine_pos (l : List Int) : 1 ≤ (nine l).sum := by
  have := sum_le9 (l.map (fun x => 1 + withI x 9)) (fun x hx => nine_bd (l := l) x (List.mem_cons_of_mem _ hx))
  unfold nine
  rw [List.sum_cons]
  omega
theorem nine_ok {l : List Int} (h : l.length ≤ 39) : weightsE (nine l) = 0 :=
  weights_ok (by rw [nine_len]; omega) (fun x hx => by have := nine_bd x hx; omega) (by have := nine_pos l; omega)
end Got
end Go.Proofs.Ytfgcmlgdgmcffab
