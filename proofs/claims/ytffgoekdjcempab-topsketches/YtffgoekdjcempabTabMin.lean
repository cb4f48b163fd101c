/- Count-min sketches: least counters. Mathematics alone. -/
import Derived.Test.YtffgoekdjcempabGr12
namespace Go.Proofs.Ytffgoekdjcempab
open Go.ChangeShapes Go.WideShapes Go.ChangeAt Go.RowKit
namespace Tbl

theorem fm_init : ∀ (l : List Int) (c : Int), l.foldl min c ≤ c
  | [], c => Int.le_refl c
  | x :: l, c => by
    rw [List.foldl_cons]
    have := fm_init l (min c x)
    omega
theorem fm_mem : ∀ (l : List Int) (c : Int), ∀ x ∈ l, l.foldl min c ≤ x
  | [], c, x, h => by cases h
  | y :: l, c, x, h => by
    rw [List.foldl_cons]
    rcases List.mem_cons.1 h with rfl | h
    · have := fm_init l (min c x)
      omega
    · exact fm_mem l (min c y) x h
theorem fm_is : ∀ (l : List Int) (c : Int), l.foldl min c = c ∨ l.foldl min c ∈ l
  | [], c => Or.inl rfl
  | y :: l, c => by
    rw [List.foldl_cons]
    rcases fm_is l (min c y) with h | h
    · rw [h]
      by_cases hc : c ≤ y
      · exact Or.inl (by omega)
      · exact Or.inr (by rw [show min c y = y from by omega]; simp)
    · exact Or.inr (List.mem_cons_of_mem _ h)
def askL (s : Nat) (x : Int) (R : List (List Int)) : List Int := R.mapIdx (fun i r => atR s x i r)
theorem askR_def (s : Nat) (x : Int) (R : List (List Int)) : askR s x R = (askL s x R).foldl min 1000000000000 := rfl
theorem askL_get {s : Nat} {x : Int} {R : List (List Int)} {i : Nat} {r : List Int} (h : R[i]? = some r) : (askL s x R)[i]? = some (atR s x i r) := by
  unfold askL
  rw [List.getElem?_mapIdx, h]; rfl
theorem askL_len (s : Nat) (x : Int) (R : List (List Int)) : (askL s x R).length = R.length := by simp [askL]
theorem ask_le {s : Nat} {x : Int} {R : List (List Int)} {i : Nat} {r : List Int} (h : R[i]? = some r) : askR s x R ≤ atR s x i r := fm_mem _ _ _ (List.mem_of_getElem? (askL_get h))
theorem ask_top (s : Nat) (x : Int) (R : List (List Int)) : askR s x R ≤ 1000000000000 := fm_init _ _
/-- the least one is one of them, or the greatest counter that may be -/
theorem ask_is (s : Nat) (x : Int) (R : List (List Int)) : askR s x R = 1000000000000 ∨ ∃ (i : Nat) (r : List Int), R[i]? = some r ∧ askR s x R = atR s x i r := by
  rcases fm_is (askL s x R) 1000000000000 with h | h
  · exact Or.inl h
  · right
    obtain ⟨i, hi⟩ := List.getElem?_of_mem h
    have hil := (List.getElem?_eq_some_iff.1 hi).1
    rw [askL_len] at hil
    have hr : R[i]? = some (R[i]'hil) := List.getElem?_eq_getElem hil
    rw [askL_get hr, Option.some.injEq] at hi
    exact ⟨i, _, hr, hi.symm⟩
theorem at_put {s : Nat} {x n y : Int} {i : Nat} {r : List Int} (h1 : 1 ≤ s) (h : r.length = s) : atR s y i (r.modify (colN s x i) (· + n)) = if colN s x i = colN s y i then atR s y i r + n else atR s y i r := by
  obtain ⟨z, hz⟩ := at_some (x := y) (i := i) h1 h
  by_cases hc : colN s x i = colN s y i
  · rw [if_pos hc, atR_is hz]
    refine atR_is ?_
    rw [List.getElem?_modify, hz, hc]
    simp
  · rw [if_neg hc, atR_is hz]
    refine atR_is ?_
    rw [List.getElem?_modify, hz]
    simp [hc]
theorem put_other {s : Nat} {x n y : Int} {R : List (List Int)} (hg : GoodT s R) (hn : 0 ≤ n) : askR s y R ≤ askR s y (putR s x n R) ∧ askR s y (putR s x n R) ≤ askR s y R + n := by
  constructor
  · rcases ask_is s y (putR s x n R) with h | ⟨i, r, hr, h⟩
    · rw [h]; exact ask_top _ _ _
    · have hil := (List.getElem?_eq_some_iff.1 hr).1
      rw [putR_len] at hil
      have hri : R[i]? = some (R[i]'hil) := List.getElem?_eq_getElem hil
      rw [putR_get hri, Option.some.injEq] at hr
      have h2 := ask_le (s := s) (x := y) hri
      rw [h, ← hr, at_put hg.s1 (hg.len _ (List.mem_of_getElem? hri))]
      split <;> omega
  · rcases ask_is s y R with h | ⟨i, r, hr, h⟩
    · have := ask_top s y (putR s x n R)
      omega
    · have h2 := ask_le (s := s) (x := y) (putR_get (s := s) (x := x) (n := n) hr)
      rw [at_put hg.s1 (hg.len _ (List.mem_of_getElem? hr))] at h2
      rw [h]
      split at h2 <;> omega
theorem put_self {s : Nat} {x n : Int} {R : List (List Int)} (hg : GoodT s R) (hn : 0 ≤ n) (hp : GoodT s (putR s x n R)) : askR s x (putR s x n R) = askR s x R + n := by
  have hat : ∀ i r, R[i]? = some r → atR s x i (r.modify (colN s x i) (· + n)) = atR s x i r + n := fun i r hr => by
    rw [at_put hg.s1 (hg.len _ (List.mem_of_getElem? hr)), if_pos rfl]
  have hbd : ∀ i r, R[i]? = some r → atR s x i r + n ≤ 1000000000000 := fun i r hr => by
    have h1 := putR_get (s := s) (x := x) (n := n) hr
    obtain ⟨y, hy⟩ := at_some (x := x) (i := i) hg.s1 (hg.len _ (List.mem_of_getElem? hr))
    have h2 := (hp.cnt _ (List.mem_of_getElem? h1) (y + n) (by
      rw [modify_is hy]
      refine List.mem_of_getElem? (i := colN s x i) ?_
      rw [List.getElem?_set, if_pos rfl, if_pos (List.getElem?_eq_some_iff.1 hy).1])).2
    rw [atR_is hy]
    exact h2
  obtain ⟨r0, hr0⟩ : ∃ r, R[0]? = some r := ⟨_, List.getElem?_eq_getElem hg.n1⟩
  have z1 := ask_le (s := s) (x := x) hr0
  have z2 := hbd 0 r0 hr0
  have z3 := ask_le (s := s) (x := x) (putR_get (s := s) (x := x) (n := n) hr0)
  rw [hat 0 r0 hr0] at z3
  have hA : askR s x (putR s x n R) ≤ askR s x R + n := (put_other hg hn).2
  have hB : askR s x R + n ≤ askR s x (putR s x n R) := by
    rcases ask_is s x (putR s x n R) with h | ⟨i, r, hr, h⟩
    · omega
    · have hil := (List.getElem?_eq_some_iff.1 hr).1
      rw [putR_len] at hil
      have hri : R[i]? = some (R[i]'hil) := List.getElem?_eq_getElem hil
      rw [putR_get hri, Option.some.injEq] at hr
      have h2 := ask_le (s := s) (x := x) hri
      rw [h, ← hr, hat i _ hri]
      omega
  omega
theorem ask_one {x n : Int} (h2 : n ≤ 1000000000000) : askR 1 x [[n]] = n := by
  have h1 := ask_le (s := 1) (x := x) (R := [[n]]) (i := 0) (r := [n]) rfl
  have h3 : atR 1 x 0 [n] = n := atR_is (by
    have : colN 1 x 0 = 0 := by have := colN_lt (s := 1) (x := x) (i := 0) (by decide); omega
    rw [this]; rfl)
  rcases ask_is 1 x [[n]] with h | ⟨i, r, hr, h⟩
  · omega
  · have hi : i = 0 := by have := (List.getElem?_eq_some_iff.1 hr).1; simp at this; exact this
    subst hi
    simp at hr
    subst hr
    omega
theorem ask_two {x n m : Int} (h1 : m ≤ n) (h2 : n ≤ 1000000000000) : askR 1 x [[n], [m]] = m := by
  have hc : ∀ i, colN 1 x i = 0 := fun i => by have := colN_lt (s := 1) (x := x) (i := i) (by decide); omega
  have e0 : atR 1 x 0 [n] = n := atR_is (by rw [hc 0]; rfl)
  have e1 : atR 1 x 1 [m] = m := atR_is (by rw [hc 1]; rfl)
  have a0 := ask_le (s := 1) (x := x) (R := [[n], [m]]) (i := 0) (r := [n]) rfl
  have a1 := ask_le (s := 1) (x := x) (R := [[n], [m]]) (i := 1) (r := [m]) rfl
  rcases ask_is 1 x [[n], [m]] with h | ⟨i, r, hr, h⟩
  · omega
  · have hi : i = 0 ∨ i = 1 := by have := (List.getElem?_eq_some_iff.1 hr).1; simp at this; omega
    rcases hi with rfl | rfl
    · simp at hr; subst hr; omega
    · simp at hr; subst hr; omega
theorem put_two (x k n m : Int) : putR 1 x k [[n], [m]] = [[n + k], [m + k]] := by
  have hc : ∀ i, colN 1 x i = 0 := fun i => by have := colN_lt (s := 1) (x := x) (i := i) (by decide); omega
  unfold putR
  rw [List.mapIdx_cons, List.mapIdx_cons, List.mapIdx_nil, hc, hc]
  rfl
theorem put_one (x k n : Int) : putR 1 x k [[n]] = [[n + k]] := by
  have hc : ∀ i, colN 1 x i = 0 := fun i => by have := colN_lt (s := 1) (x := x) (i := i) (by decide); omega
  unfold putR
  rw [List.mapIdx_cons, List.mapIdx_nil, hc]
  rfl
end Tbl
end Go.Proofs.Ytffgoekdjcempab
