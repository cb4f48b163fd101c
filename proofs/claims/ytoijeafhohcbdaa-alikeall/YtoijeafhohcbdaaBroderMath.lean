/- Broder: over all orders of at most five, two sets have the same first as often as their common things go into all of theirs. Mathematics alone. -/
import Derived.Test.YtoijeafhohcbdaaThingsMath
namespace Go.Proofs.Ytoijeafhohcbdaa
open Go.ChangeShapes Go.WideShapes Go.ChangeAt Go.RowKit
open Digit Alk
namespace Broder

def pB (b0 b1 b2 b3 b4 : Bool) (i : Int) : Bool := if i = 0 then b0 else if i = 1 then b1 else if i = 2 then b2 else if i = 3 then b3 else b4
def cntF (n : Nat) (C : List Int) (x : Int) : Nat := (List.range (fact n)).countP (fun i => firstV (orderOf n i) C == x)
set_option maxRecDepth 100000 in
theorem fair_all : ∀ n : Fin 6, ∀ b0 b1 b2 b3 b4 : Bool, ∀ x ∈ (rowOf n.1).filter (pB b0 b1 b2 b3 b4), cntF n.1 ((rowOf n.1).filter (pB b0 b1 b2 b3 b4)) x * ((rowOf n.1).filter (pB b0 b1 b2 b3 b4)).length = fact n.1 := by decide +kernel
theorem filter_pB {n : Nat} (hn : n ≤ 5) (p : Int → Bool) : (rowOf n).filter p = (rowOf n).filter (pB (p 0) (p 1) (p 2) (p 3) (p 4)) := by
  apply List.filter_congr
  intro x hx
  have h := rowOf_mem.1 hx
  rcases (show x = 0 ∨ x = 1 ∨ x = 2 ∨ x = 3 ∨ x = 4 by omega) with rfl | rfl | rfl | rfl | rfl <;> rfl
theorem fair {n : Nat} (hn : n ≤ 5) (l : List Int) {x : Int} (hx : x ∈ thingsL l n) : cntF n (thingsL l n) x * (thingsL l n).length = fact n := by
  unfold thingsL at hx ⊢
  rw [filter_pB hn] at hx ⊢
  exact fair_all ⟨n, by omega⟩ _ _ _ _ _ x hx
theorem count_split {g : Nat → Int} {x : Int} {D : List Int} (hx : x ∉ D) : ∀ L : List Nat, L.countP (fun i => decide (g i ∈ x :: D)) = L.countP (fun i => g i == x) + L.countP (fun i => decide (g i ∈ D))
  | [] => rfl
  | i :: L => by
    rw [List.countP_cons, List.countP_cons, List.countP_cons, count_split hx L]
    by_cases h1 : g i = x
    · simp [h1, hx]
      omega
    · by_cases h2 : g i ∈ D
      · simp [h1, h2]; omega
      · simp [h1, h2]
theorem count_mem {g : Nat → Int} {D : List Int} (hD : D.Nodup) (L : List Nat) : L.countP (fun i => decide (g i ∈ D)) = (D.map (fun x => L.countP (fun i => g i == x))).sum := by
  induction D with
  | nil => simp
  | cons x D ih =>
    have hx := List.nodup_cons.1 hD
    rw [List.map_cons, List.sum_cons, ← ih hx.2, count_split hx.1]
theorem sum_mul {D : List Int} {f : Int → Nat} {c N : Nat} (h : ∀ x ∈ D, f x * c = N) : (D.map f).sum * c = N * D.length := by
  induction D with
  | nil => simp
  | cons x D ih =>
    rw [List.map_cons, List.sum_cons, Nat.add_mul, h x (List.mem_cons_self ..), ih (fun y hy => h y (List.mem_cons_of_mem _ hy)), List.length_cons, Nat.mul_succ]
    omega
/-- how often the first of two sets is the same -/
def cntS (n : Nat) (A B : List Int) (k : Nat) : Nat := (List.range k).countP (fun i => firstV (orderOf n i) A == firstV (orderOf n i) B)
def inB (A B : List Int) (k : Nat) : Nat := (A.take k).countP (fun x => decide (x ∈ B))
def outB (A B : List Int) (k : Nat) : Nat := (A.take k).countP (fun x => !decide (x ∈ B))
theorem cntS_succ (n : Nat) (A B : List Int) (k : Nat) : cntS n A B (k + 1) = cntS n A B k + if firstV (orderOf n k) A = firstV (orderOf n k) B then 1 else 0 := by
  unfold cntS
  rw [List.range_succ, List.countP_append, List.countP_singleton]
  by_cases h : firstV (orderOf n k) A = firstV (orderOf n k) B
  · simp [h]
  · simp [h]
theorem inB_succ {A B : List Int} {k : Nat} {x : Int} (h : A[k]? = some x) : inB A B (k + 1) = inB A B k + (if x ∈ B then 1 else 0) ∧ outB A B (k + 1) = outB A B k + (if x ∈ B then 0 else 1) := by
  unfold inB outB
  rw [List.take_add_one, h, Option.toList_some, List.countP_append, List.countP_append, List.countP_singleton, List.countP_singleton]
  by_cases hx : x ∈ B <;> simp [hx]
theorem inB_le (A B : List Int) (k : Nat) : inB A B k ≤ A.length ∧ outB A B k ≤ A.length := by
  unfold inB outB
  have h1 := List.countP_le_length (p := fun x => decide (x ∈ B)) (l := A.take k)
  have h2 := List.countP_le_length (p := fun x => !decide (x ∈ B)) (l := A.take k)
  rw [List.length_take] at h1 h2
  omega
theorem cntS_le (n : Nat) (A B : List Int) (k : Nat) : cntS n A B k ≤ k := by
  unfold cntS
  have h := List.countP_le_length (p := fun i => firstV (orderOf n i) A == firstV (orderOf n i) B) (l := List.range k)
  rw [List.length_range] at h
  exact h
theorem broder {n : Nat} (hn : n ≤ 5) {l m : List Int} (hA : thingsL l n ≠ []) (hB : thingsL m n ≠ []) :
    cntS n (thingsL l n) (thingsL m n) (fact n) * ((thingsL m n).length + outB (thingsL l n) (thingsL m n) (thingsL l n).length) = fact n * inB (thingsL l n) (thingsL m n) (thingsL l n).length := by
  have hAb : ∀ z ∈ thingsL l n, 0 ≤ z ∧ z < (n : Int) := fun z hz => (thingsL_mem.1 hz).1
  have hBb : ∀ z ∈ thingsL m n, 0 ≤ z ∧ z < (n : Int) := fun z hz => (thingsL_mem.1 hz).1
  have hAn := up_nodup (thingsL_up l n)
  have hBn := up_nodup (thingsL_up m n)
  generalize thingsL l n = A at *
  generalize thingsL m n = B at *
  have hC := things_both (n := n) (by omega) hAb hBb
  have hCf := fun x (hx : x ∈ thingsL (A ++ B) n) => fair hn (A ++ B) hx
  have hCn := up_nodup (thingsL_up (A ++ B) n)
  have hCb : ∀ z ∈ thingsL (A ++ B) n, 0 ≤ z ∧ z < (n : Int) := fun z hz => (thingsL_mem.1 hz).1
  generalize thingsL (A ++ B) n = C at *
  have hC0 : C ≠ [] := by
    intro h
    cases A with
    | nil => exact hA rfl
    | cons x A' => have := (hC x).2 (Or.inl (List.mem_cons_self ..)); rw [h] at this; cases this
  have hlen : C.length = B.length + outB A B A.length := by
    have hp : C.Perm (B ++ A.filter (fun x => !decide (x ∈ B))) := by
      refine (List.perm_ext_iff_of_nodup hCn ?_).2 (fun z => ?_)
      · rw [List.nodup_append]
        refine ⟨hBn, hAn.filter _, fun a ha b hb => ?_⟩
        rw [List.mem_filter] at hb
        intro e
        subst e
        simp [ha] at hb
      · rw [hC z, List.mem_append, List.mem_filter]
        by_cases h : z ∈ B <;> simp [h]
    rw [hp.length_eq, List.length_append, outB, List.take_length, ← List.countP_eq_length_filter]
  have hcnt : cntS n A B (fact n) = (List.range (fact n)).countP (fun i => decide (firstV (orderOf n i) C ∈ A.filter (fun x => decide (x ∈ B)))) := by
    unfold cntS
    apply List.countP_congr
    intro i hi
    obtain ⟨hol, hok⟩ := orderOf_ok (List.mem_range.1 hi)
    generalize orderOf n i = o at *
    rw [beq_iff_eq, decide_eq_true_iff, List.mem_filter, decide_eq_true_iff]
    have hAo : ∀ y ∈ A, 0 ≤ y ∧ y < o.length := fun y hy => by rw [hol]; exact hAb y hy
    have hBo : ∀ y ∈ B, 0 ≤ y ∧ y < o.length := fun y hy => by rw [hol]; exact hBb y hy
    have hCo : ∀ y ∈ C, 0 ≤ y ∧ y < o.length := fun y hy => by rw [hol]; exact hCb y hy
    constructor
    · intro h
      obtain ⟨a1, a2⟩ := firstV_spec (o := o) hA
      obtain ⟨b1, b2⟩ := firstV_spec (o := o) hB
      rw [h] at a1 a2
      have hc : firstV o C = firstV o B := firstV_uniq hok hCo ((hC _).2 (Or.inr b1)) (fun y hy => by
        rcases (hC y).1 hy with hy | hy
        · exact a2 y hy
        · exact b2 y hy)
      rw [hc]
      exact ⟨a1, b1⟩
    · rintro ⟨h1, h2⟩
      rw [first_within hok hAo (fun y hy => (hC y).2 (Or.inl hy)) h1, first_within hok hBo (fun y hy => (hC y).2 (Or.inr hy)) h2]
  rw [hcnt, count_mem (hAn.filter _), ← hlen, sum_mul (N := fact n) (f := fun x => (List.range (fact n)).countP (fun i => firstV (orderOf n i) C == x)) (fun x hx => hCf x ((hC x).2 (Or.inl (List.mem_filter.1 hx).1))), inB, List.take_length, ← List.countP_eq_length_filter]
end Broder
end Go.Proofs.Ytoijeafhohcbdaa
