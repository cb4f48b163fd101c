/- The shares of a table, column by column. Mathematics alone. -/
import Derived.Test.YteddoccgbebbeabAliasCheck
namespace Go.Proofs.Yteddoccgbebbeab

def addAt (s : List Int) (i : Nat) (x : Int) : List Int := s.set i (s.getD i 0 + x)
/-- the shares, when k columns have been dealt out -/
def sharesTo (A : Int) (O R : List Int) (n : Nat) : Nat → List Int
  | 0 => List.replicate n 0
  | k + 1 => addAt (addAt (sharesTo A O R n k) k (O.getD k 0)) (R.getD k 0).toNat (A - O.getD k 0)
theorem addAt_len (s : List Int) (i : Nat) (x : Int) : (addAt s i x).length = s.length := by simp [addAt]
theorem sharesTo_len (A : Int) (O R : List Int) (n : Nat) : ∀ k, (sharesTo A O R n k).length = n
  | 0 => by simp [sharesTo]
  | k + 1 => by rw [sharesTo, addAt_len, addAt_len]; exact sharesTo_len A O R n k
theorem addAt_bd {s : List Int} {i : Nat} {x M X : Int} (h : ∀ y ∈ s, 0 ≤ y ∧ y ≤ M) (hM : 0 ≤ M) (hx : 0 ≤ x ∧ x ≤ X) : ∀ y ∈ addAt s i x, 0 ≤ y ∧ y ≤ M + X := by
  intro y hy
  have hg : 0 ≤ s.getD i 0 ∧ s.getD i 0 ≤ M := by
    rw [List.getD_eq_getElem?_getD]
    cases e : s[i]? with
    | none => exact ⟨Int.le_refl _, hM⟩
    | some z => exact h z (List.mem_of_getElem? e)
  rcases List.mem_or_eq_of_mem_set hy with hy | rfl
  · have := h y hy; omega
  · omega
theorem addAt_get {s : List Int} {i : Nat} {y : Int} (x : Int) (h : s[i]? = some y) : addAt s i x = s.set i (y + x) := by
  unfold addAt
  rw [List.getD_eq_getElem?_getD, h]; rfl
theorem sharesTo_bd {A : Int} {O R : List Int} {n : Nat} (hA : A ≤ 40000000000000) (hO : ∀ (i : Nat) (o : Int), O[i]? = some o → 0 ≤ o ∧ o ≤ A) : ∀ k, k ≤ O.length → ∀ y ∈ sharesTo A O R n k, 0 ≤ y ∧ y ≤ (k : Int) * 80000000000000
  | 0, _ => by
    intro y hy
    have := List.eq_of_mem_replicate hy
    omega
  | k + 1, hk => by
    have ih := sharesTo_bd hA hO (R := R) (n := n) k (by omega)
    obtain ⟨o, ho⟩ : ∃ o, O[k]? = some o := ⟨_, List.getElem?_eq_getElem (by omega)⟩
    have hd : O.getD k 0 = o := by rw [List.getD_eq_getElem?_getD, ho]; rfl
    have hb := hO k o ho
    rw [sharesTo, hd]
    intro y hy
    have := addAt_bd (addAt_bd (i := k) ih (by omega) (x := o) (X := 40000000000000) (by omega)) (by omega) (x := A - o) (X := 40000000000000) (by omega) y hy
    omega
end Go.Proofs.Yteddoccgbebbeab
