/- The least of some numbers, each once: sorted, made distinct, cut off; and that order, repetition and grouping don't matter. Mathematics alone. -/
import Derived.Test.YtfocmnjkoominaaSortOwn
namespace Go.Proofs.Ytfocmnjkoominaa
namespace Least

/-- x put into its place -/
def ins (x : Int) : List Int → List Int
  | [] => [x]
  | y :: l => if x < y then x :: y :: l else if x = y then y :: l else y :: ins x l
def Up (l : List Int) : Prop := l.Pairwise (· < ·)
def fold (u : List Int) (l : List Int) : List Int := l.foldl (fun u x => ins x u) u
/-- the distinct numbers, rising -/
def uniq (l : List Int) : List Int := fold [] l
/-- the least k of them -/
def T (k : Nat) (l : List Int) : List Int := (uniq l).take k

theorem mem_ins (x y : Int) : ∀ l, y ∈ ins x l ↔ y = x ∨ y ∈ l
  | [] => by simp [ins]
  | z :: l => by
    unfold ins
    split
    · simp
    · split
      · rename_i h; subst h; simp
      · rw [List.mem_cons, mem_ins x y l, List.mem_cons]
        constructor
        · rintro (h | h | h)
          · exact Or.inr (Or.inl h)
          · exact Or.inl h
          · exact Or.inr (Or.inr h)
        · rintro (h | h | h)
          · exact Or.inr (Or.inl h)
          · exact Or.inl h
          · exact Or.inr (Or.inr h)
theorem up_ins (x : Int) : ∀ {l}, Up l → Up (ins x l)
  | [], _ => by simp [ins, Up]
  | z :: l, h => by
    unfold Up at h
    rw [List.pairwise_cons] at h
    unfold ins
    split
    · rename_i hx
      unfold Up
      rw [List.pairwise_cons, List.pairwise_cons]
      exact ⟨fun y hy => by rcases List.mem_cons.1 hy with rfl | hy; exact hx; have := h.1 y hy; omega, h⟩
    · split
      · unfold Up; rw [List.pairwise_cons]; exact h
      · unfold Up
        rw [List.pairwise_cons]
        refine ⟨fun y hy => ?_, up_ins x (l := l) h.2⟩
        rcases (mem_ins x y l).1 hy with rfl | hy
        · omega
        · exact h.1 y hy
theorem fold_cons (u : List Int) (x : Int) (l : List Int) : fold u (x :: l) = fold (ins x u) l := rfl
theorem fold_append (u a b : List Int) : fold u (a ++ b) = fold (fold u a) b := List.foldl_append
theorem mem_fold (y : Int) : ∀ l u, y ∈ fold u l ↔ y ∈ u ∨ y ∈ l
  | [], u => by simp [fold]
  | x :: l, u => by
    rw [fold_cons, mem_fold y l, mem_ins, List.mem_cons]
    constructor
    · rintro ((h | h) | h)
      · exact Or.inr (Or.inl h)
      · exact Or.inl h
      · exact Or.inr (Or.inr h)
    · rintro (h | h | h)
      · exact Or.inl (Or.inr h)
      · exact Or.inl (Or.inl h)
      · exact Or.inr h
theorem up_fold : ∀ l {u}, Up u → Up (fold u l)
  | [], _, h => h
  | x :: l, _, h => by rw [fold_cons]; exact up_fold l (up_ins x h)
theorem mem_uniq {y : Int} {l : List Int} : y ∈ uniq l ↔ y ∈ l := by rw [uniq, mem_fold]; simp
theorem up_uniq (l : List Int) : Up (uniq l) := up_fold l (by simp [Up])
theorem up_ext : ∀ {a b : List Int}, Up a → Up b → (∀ y, y ∈ a ↔ y ∈ b) → a = b
  | [], [], _, _, _ => rfl
  | [], y :: b, _, _, h => absurd ((h y).2 (by simp)) (by simp)
  | x :: a, [], _, _, h => absurd ((h x).1 (by simp)) (by simp)
  | x :: a, y :: b, ha, hb, h => by
    unfold Up at ha hb
    rw [List.pairwise_cons] at ha hb
    have h1 := (h x).1 (by simp)
    have h2 := (h y).2 (by simp)
    obtain rfl : x = y := by
      rcases List.mem_cons.1 h1 with h1 | h1
      · exact h1
      · rcases List.mem_cons.1 h2 with h2 | h2
        · exact h2.symm
        · have := ha.1 y h2; have := hb.1 x h1; omega
    rw [up_ext (a := a) (b := b) ha.2 hb.2 (fun z => ?_)]
    constructor
    · intro hz
      rcases List.mem_cons.1 ((h z).1 (List.mem_cons_of_mem _ hz)) with rfl | h3
      · exact absurd (ha.1 z hz) (by omega)
      · exact h3
    · intro hz
      rcases List.mem_cons.1 ((h z).2 (List.mem_cons_of_mem _ hz)) with rfl | h3
      · exact absurd (hb.1 z hz) (by omega)
      · exact h3
theorem take_cons_take (k : Nat) (y : Int) (l : List Int) : (y :: l.take k).take k = (y :: l).take k := by
  cases k with
  | zero => rfl
  | succ k => rw [List.take_succ_cons, List.take_succ_cons, List.take_take, Nat.min_eq_left (Nat.le_succ k)]
theorem ins_take (x : Int) : ∀ (k : Nat) (l : List Int), (ins x (l.take k)).take k = (ins x l).take k
  | 0, _ => rfl
  | _ + 1, [] => rfl
  | k + 1, y :: l => by
    rw [List.take_succ_cons]
    unfold ins
    split
    · rw [List.take_succ_cons, List.take_succ_cons, take_cons_take]
    · split
      · rw [List.take_succ_cons, List.take_succ_cons, List.take_take, Nat.min_self]
      · rw [List.take_succ_cons, List.take_succ_cons, ins_take x k l]
theorem fold_take (k : Nat) : ∀ (b u : List Int), (fold (u.take k) b).take k = (fold u b).take k
  | [], u => by simp [fold, List.take_take]
  | x :: b, u => by rw [fold_cons, fold_cons, ← fold_take k b (ins x (u.take k)), ins_take, fold_take k b (ins x u)]
theorem uniq_up {l : List Int} (h : Up l) : uniq l = l := up_ext (up_uniq l) h (fun _ => mem_uniq)
theorem up_take {l : List Int} (h : Up l) (k : Nat) : Up (l.take k) := List.Pairwise.sublist (List.take_sublist k l) h
theorem T_up (k : Nat) (l : List Int) : Up (T k l) := up_take (up_uniq l) k
theorem T_len (k : Nat) (l : List Int) : (T k l).length = min k (uniq l).length := List.length_take
theorem T_le (k : Nat) (l : List Int) : (T k l).length ≤ k := by rw [T_len]; omega
theorem T_mem {k : Nat} {l : List Int} {y : Int} (h : y ∈ T k l) : y ∈ l := mem_uniq.1 (List.mem_of_mem_take h)
theorem T_nil (k : Nat) : T k [] = [] := by simp [T, uniq, fold]
theorem T_absorb (k : Nat) (a b : List Int) : T k (T k a ++ b) = T k (a ++ b) := by
  unfold T uniq
  rw [fold_append, fold_append]
  have h : fold [] ((fold [] a).take k) = (fold [] a).take k := uniq_up (T_up k a)
  rw [h, fold_take]
theorem T_congr (k : Nat) {a b : List Int} (h : ∀ y, y ∈ a ↔ y ∈ b) : T k a = T k b := by
  unfold T
  rw [up_ext (up_uniq a) (up_uniq b) (fun y => by rw [mem_uniq, mem_uniq]; exact h y)]
theorem T_comm (k : Nat) (a b : List Int) : T k (a ++ b) = T k (b ++ a) := T_congr k (fun y => by rw [List.mem_append, List.mem_append]; exact Or.comm)
theorem T_absorb_right (k : Nat) (a b : List Int) : T k (a ++ T k b) = T k (a ++ b) := by rw [T_comm, T_absorb, T_comm]
theorem T_both (k : Nat) (a b : List Int) : T k (T k a ++ T k b) = T k (a ++ b) := by rw [T_absorb, T_absorb_right]
theorem T_less {k m : Nat} (h : m ≤ k) (l : List Int) : (T k l).take m = T m l := by unfold T; rw [List.take_take, Nat.min_eq_left h]
theorem ins_len (x : Int) : ∀ l, l.length ≤ (ins x l).length
  | [] => by simp [ins]
  | y :: l => by
    unfold ins
    split
    · simp
    · split
      · exact Nat.le_refl _
      · have := ins_len x l; simp only [List.length_cons]; omega
/-- behind a further number each place holds no more -/
theorem ins_low (x : Int) : ∀ {l : List Int}, Up l → ∀ {i : Nat} {y z : Int}, (ins x l)[i]? = some y → l[i]? = some z → y ≤ z
  | [], _, _, _, _, _, h => by simp at h
  | t :: l, hu, i, y, z, h1, h2 => by
    unfold Up at hu
    rw [List.pairwise_cons] at hu
    unfold ins at h1
    split at h1
    · rename_i hx
      cases i with
      | zero =>
        simp at h1 h2
        omega
      | succ i =>
        rw [List.getElem?_cons_succ] at h1 h2
        cases i with
        | zero =>
          simp only [List.getElem?_cons_zero, Option.some.injEq] at h1
          have := hu.1 z (List.mem_of_getElem? h2)
          omega
        | succ i =>
          rw [List.getElem?_cons_succ] at h1
          have h3 : i < i + 1 := Nat.lt_succ_self i
          obtain ⟨l1, e1⟩ := List.getElem?_eq_some_iff.1 h1
          obtain ⟨l2, e2⟩ := List.getElem?_eq_some_iff.1 h2
          have := List.pairwise_iff_getElem.1 hu.2 i (i + 1) l1 l2 h3
          omega
    · split at h1
      · rw [h1] at h2
        cases h2
        exact Int.le_refl _
      · cases i with
        | zero =>
          simp at h1 h2
          omega
        | succ i =>
          rw [List.getElem?_cons_succ] at h1 h2
          exact ins_low x hu.2 h1 h2
theorem T_one (k : Nat) (l : List Int) (x : Int) : T k (T k l ++ [x]) = (ins x (T k l)).take k := by
  have h : uniq (T k l ++ [x]) = ins x (T k l) := by
    unfold uniq
    rw [fold_append]
    have h1 : fold [] (T k l) = T k l := uniq_up (T_up k l)
    rw [h1]
    rfl
  show (uniq (T k l ++ [x])).take k = _
  rw [h]
theorem T_grows (k : Nat) (l : List Int) (x : Int) : (T k l).length ≤ (T k (T k l ++ [x])).length := by
  rw [T_one, List.length_take]
  have h1 := ins_len x (T k l)
  have h2 := T_le k l
  omega
theorem T_low {k : Nat} {l : List Int} {x : Int} {i : Nat} {y z : Int} (h1 : (T k (T k l ++ [x]))[i]? = some y) (h2 : (T k l)[i]? = some z) : y ≤ z := by
  rw [T_one] at h1
  have hi : i < k := by
    have := (List.getElem?_eq_some_iff.1 h1).1
    rw [List.length_take] at this
    omega
  rw [List.getElem?_take_of_lt hi] at h1
  exact ins_low x (T_up k l) h1 h2

/-- sorted lists -/
theorem sortI_mem (l : List Int) (y : Int) : y ∈ sortI l ↔ y ∈ l := (List.mergeSort_perm l _).mem_iff
theorem sortI_up (l : List Int) : (sortI l).Pairwise (· ≤ ·) := by
  have h := List.pairwise_mergeSort (le := fun (x y : Int) => decide (x ≤ y)) (fun a b c h1 h2 => by simp at h1 h2 ⊢; omega) (fun a b => by simp; omega) l
  exact h.imp (fun h => by simpa using h)
/-- of distinct numbers -/
theorem sort_nodup {l o : List Int} (hn : o.Nodup) (hm : ∀ y, y ∈ o ↔ y ∈ l) : sortI o = uniq l := by
  refine up_ext ?_ (up_uniq l) (fun y => by rw [sortI_mem, mem_uniq]; exact hm y)
  have h1 := sortI_up o
  have h2 : (sortI o).Nodup := (List.mergeSort_perm o _).nodup_iff.2 hn
  exact (h1.and h2).imp (fun h => by obtain ⟨a, b⟩ := h; omega)
theorem get_at {s : List Int} {j : Nat} (h : j < s.length) : s.toArray[j]! = s[j] := by simp [h]
theorem compact_mem {s : List Int} {y : Int} : y ∈ Lib.compact s ↔ y ∈ s := by
  unfold Lib.compact Lib.compactUpTo
  rw [List.mem_map]
  constructor
  · rintro ⟨j, hj, rfl⟩
    rw [List.mem_filter, List.mem_range] at hj
    rw [get_at hj.1]
    exact List.getElem_mem _
  · intro hy
    obtain ⟨j, hj, rfl⟩ := List.getElem_of_mem hy
    have key : ∀ j (hj : j < s.length), ∃ a, a ∈ (List.range s.length).filter (Lib.keeps s.toArray) ∧ s.toArray[a]! = s[j] := by
      intro j
      induction j with
      | zero => intro hj; exact ⟨0, by rw [List.mem_filter, List.mem_range]; exact ⟨hj, by simp [Lib.keeps]⟩, get_at hj⟩
      | succ j ih =>
        intro hj
        by_cases hk : Lib.keeps s.toArray (j + 1) = true
        · exact ⟨j + 1, by rw [List.mem_filter, List.mem_range]; exact ⟨hj, hk⟩, get_at hj⟩
        · obtain ⟨a, ha, he⟩ := ih (by omega)
          refine ⟨a, ha, ?_⟩
          have : s.toArray[j + 1]! = s.toArray[j]! := by
            by_cases h : s.toArray[j + 1]! = s.toArray[j]!
            · exact h
            · exact absurd (by unfold Lib.keeps; rw [decide_eq_true_iff]; exact Or.inr (by simpa using h)) hk
          rw [get_at hj, get_at (show j < s.length by omega)] at this
          rw [he, this]
    exact key j hj
theorem compact_up {s : List Int} (h : s.Pairwise (· ≤ ·)) : Up (Lib.compact s) := by
  unfold Up Lib.compact Lib.compactUpTo
  rw [List.pairwise_map, List.pairwise_filter]
  have hr : (List.range s.length).Pairwise (· < ·) := List.pairwise_lt_range
  refine List.Pairwise.imp_of_mem (fun {i j} hi hj hij _ hk => ?_) hr
  rw [List.mem_range] at hi hj
  unfold Lib.keeps at hk
  rw [decide_eq_true_iff] at hk
  have hk : s.toArray[j]! ≠ s.toArray[j - 1]! := by
    rcases hk with hk | hk
    · omega
    · exact hk
  rw [get_at hj, get_at (show j - 1 < s.length by omega)] at hk
  rw [get_at hi, get_at hj]
  have h1 : s[i] ≤ s[j - 1] := by
    by_cases e : i = j - 1
    · subst e; exact Int.le_refl _
    · exact List.pairwise_iff_getElem.1 h i (j - 1) hi (by omega) (by omega)
  have h2 : s[j - 1] ≤ s[j] := List.pairwise_iff_getElem.1 h (j - 1) j (by omega) hj (by omega)
  omega
theorem compact_sort (l : List Int) : Lib.compact (sortI l) = uniq l := up_ext (compact_up (sortI_up l)) (up_uniq l) (fun y => by rw [compact_mem, sortI_mem, mem_uniq])
theorem ins_lenle (x : Int) : ∀ l, (ins x l).length ≤ l.length + 1
  | [] => by simp [ins]
  | y :: l => by
    unfold ins
    split
    · simp
    · split
      · simp
      · have := ins_lenle x l; simp only [List.length_cons]; omega
theorem fold_lenle : ∀ l u, (fold u l).length ≤ u.length + l.length
  | [], u => by simp [fold]
  | x :: l, u => by
    rw [fold_cons]
    have h1 := fold_lenle l (ins x u)
    have h2 := ins_lenle x u
    rw [List.length_cons]
    omega
theorem uniq_lenle (l : List Int) : (uniq l).length ≤ l.length := by have := fold_lenle l []; simpa [uniq] using this
end Least
end Go.Proofs.Ytfocmnjkoominaa
