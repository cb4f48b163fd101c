/- Sorting by counting how many stand ahead. Mathematics alone. -/
import Derived.Test.YtanfkolcoaofdaaDigitMath
namespace Go.Proofs.Ytanfkolcoaofdaa
namespace Digit

def cnt (x : Int) (l : List Int) : Nat := l.countP (fun y => decide (y = x))
theorem cnt_perm {x : Int} {l m : List Int} (h : l.Perm m) : cnt x l = cnt x m := h.countP_eq _
theorem cnt_app (x : Int) (l m : List Int) : cnt x (l ++ m) = cnt x l + cnt x m := List.countP_append
theorem cnt_cons (x y : Int) (l : List Int) : cnt x (y :: l) = cnt x l + if y = x then 1 else 0 := by
  unfold cnt
  rw [List.countP_cons]
  simp
theorem less_cnt (x : Int) : ∀ l : List Int, less x l + cnt x l ≤ l.length
  | [] => by simp [less, cnt]
  | y :: l => by
    have := less_cnt x l
    rw [less_cons, cnt_cons, List.length_cons]
    split <;> split <;> omega
theorem less_next {x y : Int} (h : x < y) : ∀ l : List Int, less x l + cnt x l ≤ less y l
  | [] => by simp [less, cnt]
  | z :: l => by
    have := less_next h l
    rw [less_cons, cnt_cons, less_cons]
    split <;> split <;> split <;> omega
/-- so many stand ahead of x at place i, as far as the first j tell -/
def atTo (l : List Int) (x : Int) (i j : Nat) : Nat := less x (l.take j) + cnt x (l.take (min j i))
theorem atTo_step {l : List Int} {x y : Int} {i j : Nat} (h : l[j]? = some y) : atTo l x i (j + 1) = atTo l x i j + if y < x ∨ (y = x ∧ j < i) then 1 else 0 := by
  unfold atTo
  rw [List.take_add_one, h, less_app, show (some y).toList = [y] from rfl, less_cons, show less x [] = 0 from rfl]
  by_cases hji : j < i
  · rw [show min (j + 1) i = j + 1 from by omega, show min j i = j from by omega, List.take_add_one, h, cnt_app, show (some y).toList = [y] from rfl, cnt_cons, show cnt x [] = 0 from rfl]
    split <;> split <;> split <;> omega
  · rw [show min (j + 1) i = i from by omega, show min j i = i from by omega]
    split <;> split <;> omega
def atOf (l : List Int) (x : Int) (i : Nat) : Nat := less x l + cnt x (l.take i)
theorem atTo_all (l : List Int) (x : Int) {i : Nat} (h : i ≤ l.length) : atTo l x i l.length = atOf l x i := by
  unfold atTo atOf
  rw [List.take_length, Nat.min_eq_right h]
theorem cnt_take {l : List Int} {x : Int} {i : Nat} (h : l[i]? = some x) : cnt x (l.take i) < cnt x l := by
  obtain ⟨hi, hx⟩ := List.getElem?_eq_some_iff.1 h
  have e : l = l.take i ++ x :: l.drop (i + 1) := by rw [← hx, ← List.drop_eq_getElem_cons hi, List.take_append_drop]
  have := congrArg (cnt x) e
  rw [cnt_app, cnt_cons, if_pos rfl] at this
  omega
theorem atOf_lt {l : List Int} {x : Int} {i : Nat} (h : l[i]? = some x) : atOf l x i < less x l + cnt x l := by
  unfold atOf
  have := cnt_take h
  omega
theorem atOf_len {l : List Int} {x : Int} {i : Nat} (h : l[i]? = some x) : atOf l x i < l.length := Nat.lt_of_lt_of_le (atOf_lt h) (less_cnt x l)
theorem atOf_inj {l : List Int} {x y : Int} {i j : Nat} (hx : l[i]? = some x) (hy : l[j]? = some y) (h : i < j) : atOf l x i ≠ atOf l y j := by
  intro e
  rcases Int.lt_trichotomy x y with h1 | h1 | h1
  · have a := atOf_lt hx
    have b := less_next h1 l
    unfold atOf at *
    omega
  · subst h1
    have a : cnt x (l.take i) < cnt x (l.take j) := by
      have h2 : (l.take j)[i]? = some x := by rw [List.getElem?_take_of_lt h]; exact hx
      have := cnt_take h2
      rw [List.take_take, Nat.min_eq_left (Nat.le_of_lt h)] at this
      exact this
    unfold atOf at e
    omega
  · have a := atOf_lt hy
    have b := less_next h1 l
    unfold atOf at *
    omega
/-- each place is reached -/
theorem atOf_onto (l : List Int) {p : Nat} (hp : p < l.length) : ∃ i x, l[i]? = some x ∧ atOf l x i = p := by
  let A : List Int := (List.range l.length).map (fun i : Nat => ((atOf l ((l[i]?).getD 0) i : Nat) : Int))
  have hg : ∀ i, i < l.length → l[i]? = some ((l[i]?).getD 0) := fun i hi => by rw [List.getElem?_eq_getElem hi]; rfl
  have hA : Ok A := by
    refine ⟨?_, ?_⟩
    · show (List.map _ _).Pairwise _
      rw [List.pairwise_map]
      refine List.Pairwise.imp_of_mem ?_ (List.pairwise_lt_range (n := l.length))
      intro i j hi hj hij
      have := atOf_inj (hg i (List.mem_range.1 hi)) (hg j (List.mem_range.1 hj)) hij
      omega
    · intro x hx
      obtain ⟨i, hi, rfl⟩ := List.mem_map.1 hx
      have := atOf_len (hg i (List.mem_range.1 hi))
      show _ ∧ _ < ((List.map _ _).length : Int)
      rw [List.length_map, List.length_range]
      omega
  have hl : A.length = l.length := by show (List.map _ _).length = _; rw [List.length_map, List.length_range]
  have hm : (p : Int) ∈ A := by
    have h := ok_perm hA
    rw [hl] at h
    exact h.symm.subset (rowOf_mem.2 ⟨by omega, by omega⟩)
  obtain ⟨i, hi, he⟩ := List.mem_map.1 hm
  exact ⟨i, _, hg i (List.mem_range.1 hi), by omega⟩
/-- o is l, sorted -/
def IsSorted (l o : List Int) : Prop := o.length = l.length ∧ ∀ p v, o[p]? = some v → less v l ≤ p ∧ p < less v l + cnt v l
theorem sorted_perm {l m o : List Int} (h : l.Perm m) (hs : IsSorted l o) : IsSorted m o :=
  ⟨hs.1.trans h.length_eq, fun p v hv => by rw [← less_perm h, ← cnt_perm h]; exact hs.2 p v hv⟩
theorem sorted_one {l o q : List Int} (h1 : IsSorted l o) (h2 : IsSorted l q) : o = q := by
  apply List.ext_getElem?
  intro p
  by_cases hp : p < l.length
  · obtain ⟨v, hv⟩ : ∃ v, o[p]? = some v := ⟨_, List.getElem?_eq_getElem (by rw [h1.1]; exact hp)⟩
    obtain ⟨u, hu⟩ : ∃ u, q[p]? = some u := ⟨_, List.getElem?_eq_getElem (by rw [h2.1]; exact hp)⟩
    have a := h1.2 p v hv
    have b := h2.2 p u hu
    rw [hv, hu]
    rcases Int.lt_trichotomy v u with h | h | h
    · have := less_next h l; omega
    · rw [h]
    · have := less_next h l; omega
  · rw [List.getElem?_eq_none (by rw [h1.1]; omega), List.getElem?_eq_none (by rw [h2.1]; omega)]
/-- the first k numbers stand at their places in o -/
def Placed (l o : List Int) (k : Nat) : Prop := o.length = l.length ∧ ∀ i x, i < k → l[i]? = some x → o[atOf l x i]? = some x
theorem placed_step {l o : List Int} {k : Nat} {x : Int} (h : Placed l o k) (hx : l[k]? = some x) : Placed l (o.set (atOf l x k) x) (k + 1) := by
  refine ⟨by rw [List.length_set]; exact h.1, fun i y hi hy => ?_⟩
  by_cases e : i = k
  · subst e
    rw [hx] at hy
    obtain rfl := Option.some.inj hy
    exact List.getElem?_set_self (by rw [h.1]; exact atOf_len hx)
  · rw [List.getElem?_set_ne (fun e2 => atOf_inj hy hx (by omega) e2.symm)]
    exact h.2 i y (by omega) hy
theorem placed_all {l o : List Int} (h : Placed l o l.length) : IsSorted l o := by
  refine ⟨h.1, fun p v hv => ?_⟩
  have hp : p < l.length := by rw [← h.1]; exact (List.getElem?_eq_some_iff.1 hv).1
  obtain ⟨i, x, hx, rfl⟩ := atOf_onto l hp
  have := h.2 i x (List.getElem?_eq_some_iff.1 hx).1 hx
  rw [hv] at this
  obtain rfl := Option.some.inj this
  exact ⟨by unfold atOf; omega, atOf_lt hx⟩

end Digit
end Go.Proofs.Ytanfkolcoaofdaa
