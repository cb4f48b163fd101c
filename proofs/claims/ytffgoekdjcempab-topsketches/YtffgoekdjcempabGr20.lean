/- Texts joined: SortOwn, LeastMath, BottomCheck. -/
import Derived.Test.YtffgoekdjcempabShelf
import Derived.Test.YtffgoekdjcempabGr13
import Derived.Sort.OwnSortedInts
import Derived.Test.YtffgoekdjcempabGr1
import Derived.Test.YtffgoekdjcempabGr6
import Derived.Deep.LoopGhost
import Derived.WalkKit
/- The contract of slices.Sort on a slice of ints that the call made itself. -/
namespace Go.Proofs.Ytffgoekdjcempab
open Go.ChangeShapes Go.WideShapes Go.ChangeAt Go.RowKit

def sortI (l : List Int) : List Int := l.mergeSort fun x y => decide (x ≤ y)
theorem sortI_len (l : List Int) : (sortI l).length = l.length := List.length_mergeSort _
theorem grown_same (w : World) (row : Option Nat) : w.grownBy w row := ⟨rfl, rfl, rfl, Nat.le_refl _, fun _ _ _ => rfl⟩
/-- an own slice of ints: it is empty, or lies at the beginning of a block -/
theorem own_ways {w : World} {base : Nat} {e : TypeId} {v : Value} {l : List Int} (h : Own w base e 1 v (l.map iC)) : (l = [] ∧ ∃ a cap, v = .slice a 0 cap) ∨ (∃ g cap cur, v = .slice (some ⟨g, 0, none⟩) l.length cap ∧ base ≤ g ∧ w.heap[g]? = some (.cells cur e (0, 0)) ∧ l.length ≤ cap ∧ cap ≤ maxLen ∧ cur.size = cap ∧ cur.toList.take l.length = l.map (Value.int .i64)) := by
  obtain ⟨⟨hl, hv⟩, hR⟩ := h
  rcases hv with ⟨h0, h1⟩ | ⟨g, cap, cur, h0, hg, hcur, hle, hm, hsz, htk⟩
  · left
    rw [List.length_map] at h1
    exact ⟨List.eq_nil_of_length_eq_zero h1, none, 0, h0⟩
  · right
    rw [List.length_map] at h0 hle
    rw [flat_ints, List.length_map, Nat.mul_one] at htk
    exact ⟨g, cap, cur, h0, hg, hcur, hle, hm, by rw [hsz, Nat.mul_one], htk⟩
theorem own_again {w : World} {base g cap n : Nat} {e : TypeId} {cur : Array Value} {l : List Int} (hn : l.length = n) (hg : base ≤ g) (hcur : w.heap[g]? = some (.cells cur e (0, 0))) (hle : n ≤ cap) (hm : cap ≤ maxLen) (hsz : cur.size = cap) (htk : cur.toList.take l.length = l.map (Value.int .i64)) : Own w base e 1 (.slice (some ⟨g, 0, none⟩) n cap) (l.map iC) := by
  refine ⟨⟨?_, .inr ⟨g, cap, cur, ?_, hg, hcur, ?_, hm, by rw [hsz, Nat.mul_one], ?_⟩⟩, rows_of iC_len _⟩
  · rw [flat_ints, List.length_map, List.length_map, Nat.mul_one]
  · rw [List.length_map, hn]
  · rw [List.length_map, hn]; exact hle
  · rw [flat_ints, List.length_map, Nat.mul_one]; exact htk

theorem sort_own {w : World} {base : Nat} {v : Value} {l : List Int} (h : Own w base 3 1 v (l.map iC)) (hb : l.length ≤ 1000000) :
    Calls Try.prog 84 #[v] w fun e w' => e = .returned (.tuple #[]) ∧ Own w' base 3 1 v ((sortI l).map iC) ∧ w.grownBy w' v.ownBlock := by
  rcases own_ways h with ⟨rfl, a, cap, rfl⟩ | ⟨g, cap, cur, rfl, hg, hcur, hle, hm, hsz, htk⟩
  · refine (slices_Sort_int_none a cap w).mono ?_
    rintro e w' ⟨rfl, rfl⟩
    exact ⟨rfl, by rw [show sortI [] = [] from by simp [sortI]]; exact h, grown_same _ _⟩
  · have hlt : g < w.heap.size := (Array.getElem?_eq_some_iff.1 hcur).1
    refine (slices_Sort_int g 0 cap l w (holds_of_blockI hcur htk) hlt (by omega)).mono ?_
    rintro e w' ⟨rfl, n, os, rfl⟩
    refine ⟨rfl, own_again (sortI_len l) hg (heap_sortedI _ hcur) hle hm (by simp [Go.Sort.putCells, hsz]) ?_, grownBy_sortedI _⟩
    exact take_putCellsI cur (sortI l) (by rw [sortI_len, hsz]; exact hle)

end Go.Proofs.Ytffgoekdjcempab

/- The least of some numbers, each once: sorted, made distinct, cut off; and that order, repetition and grouping don't matter. Mathematics alone. -/
namespace Go.Proofs.Ytffgoekdjcempab
namespace Least

/-- x put into its place -/
def ins (x : Int) : List Int → List Int
  | [] => [x]
  | y :: l => if x < y then x :: y :: l else if x = y then y :: l else y :: ins x l
def Up (l : List Int) : Prop := l.Pairwise (· < ·)
def fold (u : List Int) (l : List Int) : List Int := l.foldl (fun u x => ins x u) u
/-- the distinct numbers, rising -/
def uniq (l : List Int) : List Int := fold [] l
/-- the least k of them -/
def T (k : Nat) (l : List Int) : List Int := (uniq l).take k

theorem mem_ins (x y : Int) : ∀ l, y ∈ ins x l ↔ y = x ∨ y ∈ l
  | [] => by simp [ins]
  | z :: l => by
    unfold ins
    split
    · simp
    · split
      · rename_i h; subst h; simp
      · rw [List.mem_cons, mem_ins x y l, List.mem_cons]
        constructor
        · rintro (h | h | h)
          · exact Or.inr (Or.inl h)
          · exact Or.inl h
          · exact Or.inr (Or.inr h)
        · rintro (h | h | h)
          · exact Or.inr (Or.inl h)
          · exact Or.inl h
          · exact Or.inr (Or.inr h)
theorem up_ins (x : Int) : ∀ {l}, Up l → Up (ins x l)
  | [], _ => by simp [ins, Up]
  | z :: l, h => by
    unfold Up at h
    rw [List.pairwise_cons] at h
    unfold ins
    split
    · rename_i hx
      unfold Up
      rw [List.pairwise_cons, List.pairwise_cons]
      exact ⟨fun y hy => by rcases List.mem_cons.1 hy with rfl | hy; exact hx; have := h.1 y hy; omega, h⟩
    · split
      · unfold Up; rw [List.pairwise_cons]; exact h
      · unfold Up
        rw [List.pairwise_cons]
        refine ⟨fun y hy => ?_, up_ins x (l := l) h.2⟩
        rcases (mem_ins x y l).1 hy with rfl | hy
        · omega
        · exact h.1 y hy
theorem fold_cons (u : List Int) (x : Int) (l : List Int) : fold u (x :: l) = fold (ins x u) l := rfl
theorem fold_append (u a b : List Int) : fold u (a ++ b) = fold (fold u a) b := List.foldl_append
theorem mem_fold (y : Int) : ∀ l u, y ∈ fold u l ↔ y ∈ u ∨ y ∈ l
  | [], u => by simp [fold]
  | x :: l, u => by
    rw [fold_cons, mem_fold y l, mem_ins, List.mem_cons]
    constructor
    · rintro ((h | h) | h)
      · exact Or.inr (Or.inl h)
      · exact Or.inl h
      · exact Or.inr (Or.inr h)
    · rintro (h | h | h)
      · exact Or.inl (Or.inr h)
      · exact Or.inl (Or.inl h)
      · exact Or.inr h
theorem up_fold : ∀ l {u}, Up u → Up (fold u l)
  | [], _, h => h
  | x :: l, _, h => by rw [fold_cons]; exact up_fold l (up_ins x h)
theorem mem_uniq {y : Int} {l : List Int} : y ∈ uniq l ↔ y ∈ l := by rw [uniq, mem_fold]; simp
theorem up_uniq (l : List Int) : Up (uniq l) := up_fold l (by simp [Up])
theorem up_ext : ∀ {a b : List Int}, Up a → Up b → (∀ y, y ∈ a ↔ y ∈ b) → a = b
  | [], [], _, _, _ => rfl
  | [], y :: b, _, _, h => absurd ((h y).2 (by simp)) (by simp)
  | x :: a, [], _, _, h => absurd ((h x).1 (by simp)) (by simp)
  | x :: a, y :: b, ha, hb, h => by
    unfold Up at ha hb
    rw [List.pairwise_cons] at ha hb
    have h1 := (h x).1 (by simp)
    have h2 := (h y).2 (by simp)
    obtain rfl : x = y := by
      rcases List.mem_cons.1 h1 with h1 | h1
      · exact h1
      · rcases List.mem_cons.1 h2 with h2 | h2
        · exact h2.symm
        · have := ha.1 y h2; have := hb.1 x h1; omega
    rw [up_ext (a := a) (b := b) ha.2 hb.2 (fun z => ?_)]
    constructor
    · intro hz
      rcases List.mem_cons.1 ((h z).1 (List.mem_cons_of_mem _ hz)) with rfl | h3
      · exact absurd (ha.1 z hz) (by omega)
      · exact h3
    · intro hz
      rcases List.mem_cons.1 ((h z).2 (List.mem_cons_of_mem _ hz)) with rfl | h3
      · exact absurd (hb.1 z hz) (by omega)
      · exact h3
theorem take_cons_take (k : Nat) (y : Int) (l : List Int) : (y :: l.take k).take k = (y :: l).take k := by
  cases k with
  | zero => rfl
  | succ k => rw [List.take_succ_cons, List.take_succ_cons, List.take_take, Nat.min_eq_left (Nat.le_succ k)]
theorem ins_take (x : Int) : ∀ (k : Nat) (l : List Int), (ins x (l.take k)).take k = (ins x l).take k
  | 0, _ => rfl
  | _ + 1, [] => rfl
  | k + 1, y :: l => by
    rw [List.take_succ_cons]
    unfold ins
    split
    · rw [List.take_succ_cons, List.take_succ_cons, take_cons_take]
    · split
      · rw [List.take_succ_cons, List.take_succ_cons, List.take_take, Nat.min_self]
      · rw [List.take_succ_cons, List.take_succ_cons, ins_take x k l]
theorem fold_take (k : Nat) : ∀ (b u : List Int), (fold (u.take k) b).take k = (fold u b).take k
  | [], u => by simp [fold, List.take_take]
  | x :: b, u => by rw [fold_cons, fold_cons, ← fold_take k b (ins x (u.take k)), ins_take, fold_take k b (ins x u)]
theorem uniq_up {l : List Int} (h : Up l) : uniq l = l := up_ext (up_uniq l) h (fun _ => mem_uniq)
theorem up_take {l : List Int} (h : Up l) (k : Nat) : Up (l.take k) := List.Pairwise.sublist (List.take_sublist k l) h
theorem T_up (k : Nat) (l : List Int) : Up (T k l) := up_take (up_uniq l) k
theorem T_len (k : Nat) (l : List Int) : (T k l).length = min k (uniq l).length := List.length_take
theorem T_le (k : Nat) (l : List Int) : (T k l).length ≤ k := by rw [T_len]; omega
theorem T_mem {k : Nat} {l : List Int} {y : Int} (h : y ∈ T k l) : y ∈ l := mem_uniq.1 (List.mem_of_mem_take h)
theorem T_nil (k : Nat) : T k [] = [] := by simp [T, uniq, fold]
theorem T_absorb (k : Nat) (a b : List Int) : T k (T k a ++ b) = T k (a ++ b) := by
  unfold T uniq
  rw [fold_append, fold_append]
  have h : fold [] ((fold [] a).take k) = (fold [] a).take k := uniq_up (T_up k a)
  rw [h, fold_take]
theorem T_congr (k : Nat) {a b : List Int} (h : ∀ y, y ∈ a ↔ y ∈ b) : T k a = T k b := by
  unfold T
  rw [up_ext (up_uniq a) (up_uniq b) (fun y => by rw [mem_uniq, mem_uniq]; exact h y)]
theorem T_comm (k : Nat) (a b : List Int) : T k (a ++ b) = T k (b ++ a) := T_congr k (fun y => by rw [List.mem_append, List.mem_append]; exact Or.comm)
theorem T_absorb_right (k : Nat) (a b : List Int) : T k (a ++ T k b) = T k (a ++ b) := by rw [T_comm, T_absorb, T_comm]
theorem T_both (k : Nat) (a b : List Int) : T k (T k a ++ T k b) = T k (a ++ b) := by rw [T_absorb, T_absorb_right]
theorem T_less {k m : Nat} (h : m ≤ k) (l : List Int) : (T k l).take m = T m l := by unfold T; rw [List.take_take, Nat.min_eq_left h]
theorem ins_len (x : Int) : ∀ l, l.length ≤ (ins x l).length
  | [] => by simp [ins]
  | y :: l => by
    unfold ins
    split
    · simp
    · split
      · exact Nat.le_refl _
      · have := ins_len x l; simp only [List.length_cons]; omega
/-- behind a further number each place holds no more -/
theorem ins_low (x : Int) : ∀ {l : List Int}, Up l → ∀ {i : Nat} {y z : Int}, (ins x l)[i]? = some y → l[i]? = some z → y ≤ z
  | [], _, _, _, _, _, h => by simp at h
  | t :: l, hu, i, y, z, h1, h2 => by
    unfold Up at hu
    rw [List.pairwise_cons] at hu
    unfold ins at h1
    split at h1
    · rename_i hx
      cases i with
      | zero =>
        simp at h1 h2
        omega
      | succ i =>
        rw [List.getElem?_cons_succ] at h1 h2
        cases i with
        | zero =>
          simp only [List.getElem?_cons_zero, Option.some.injEq] at h1
          have := hu.1 z (List.mem_of_getElem? h2)
          omega
        | succ i =>
          rw [List.getElem?_cons_succ] at h1
          have h3 : i < i + 1 := Nat.lt_succ_self i
          obtain ⟨l1, e1⟩ := List.getElem?_eq_some_iff.1 h1
          obtain ⟨l2, e2⟩ := List.getElem?_eq_some_iff.1 h2
          have := List.pairwise_iff_getElem.1 hu.2 i (i + 1) l1 l2 h3
          omega
    · split at h1
      · rw [h1] at h2
        cases h2
        exact Int.le_refl _
      · cases i with
        | zero =>
          simp at h1 h2
          omega
        | succ i =>
          rw [List.getElem?_cons_succ] at h1 h2
          exact ins_low x hu.2 h1 h2
theorem T_one (k : Nat) (l : List Int) (x : Int) : T k (T k l ++ [x]) = (ins x (T k l)).take k := by
  have h : uniq (T k l ++ [x]) = ins x (T k l) := by
    unfold uniq
    rw [fold_append]
    have h1 : fold [] (T k l) = T k l := uniq_up (T_up k l)
    rw [h1]
    rfl
  show (uniq (T k l ++ [x])).take k = _
  rw [h]
theorem T_grows (k : Nat) (l : List Int) (x : Int) : (T k l).length ≤ (T k (T k l ++ [x])).length := by
  rw [T_one, List.length_take]
  have h1 := ins_len x (T k l)
  have h2 := T_le k l
  omega
theorem T_low {k : Nat} {l : List Int} {x : Int} {i : Nat} {y z : Int} (h1 : (T k (T k l ++ [x]))[i]? = some y) (h2 : (T k l)[i]? = some z) : y ≤ z := by
  rw [T_one] at h1
  have hi : i < k := by
    have := (List.getElem?_eq_some_iff.1 h1).1
    rw [List.length_take] at this
    omega
  rw [List.getElem?_take_of_lt hi] at h1
  exact ins_low x (T_up k l) h1 h2

/-- sorted lists -/
theorem sortI_mem (l : List Int) (y : Int) : y ∈ sortI l ↔ y ∈ l := (List.mergeSort_perm l _).mem_iff
theorem sortI_up (l : List Int) : (sortI l).Pairwise (· ≤ ·) := by
  have h := List.pairwise_mergeSort (le := fun (x y : Int) => decide (x ≤ y)) (fun a b c h1 h2 => by simp at h1 h2 ⊢; omega) (fun a b => by simp; omega) l
  exact h.imp (fun h => by simpa using h)
/-- of distinct numbers -/
theorem sort_nodup {l o : List Int} (hn : o.Nodup) (hm : ∀ y, y ∈ o ↔ y ∈ l) : sortI o = uniq l := by
  refine up_ext ?_ (up_uniq l) (fun y => by rw [sortI_mem, mem_uniq]; exact hm y)
  have h1 := sortI_up o
  have h2 : (sortI o).Nodup := (List.mergeSort_perm o _).nodup_iff.2 hn
  exact (h1.and h2).imp (fun h => by obtain ⟨a, b⟩ := h; omega)
theorem get_at {s : List Int} {j : Nat} (h : j < s.length) : s.toArray[j]! = s[j] := by simp [h]
theorem compact_mem {s : List Int} {y : Int} : y ∈ Lib.compact s ↔ y ∈ s := by
  unfold Lib.compact Lib.compactUpTo
  rw [List.mem_map]
  constructor
  · rintro ⟨j, hj, rfl⟩
    rw [List.mem_filter, List.mem_range] at hj
    rw [get_at hj.1]
    exact List.getElem_mem _
  · intro hy
    obtain ⟨j, hj, rfl⟩ := List.getElem_of_mem hy
    have key : ∀ j (hj : j < s.length), ∃ a, a ∈ (List.range s.length).filter (Lib.keeps s.toArray) ∧ s.toArray[a]! = s[j] := by
      intro j
      induction j with
      | zero => intro hj; exact ⟨0, by rw [List.mem_filter, List.mem_range]; exact ⟨hj, by simp [Lib.keeps]⟩, get_at hj⟩
      | succ j ih =>
        intro hj
        by_cases hk : Lib.keeps s.toArray (j + 1) = true
        · exact ⟨j + 1, by rw [List.mem_filter, List.mem_range]; exact ⟨hj, hk⟩, get_at hj⟩
        · obtain ⟨a, ha, he⟩ := ih (by omega)
          refine ⟨a, ha, ?_⟩
          have : s.toArray[j + 1]! = s.toArray[j]! := by
            by_cases h : s.toArray[j + 1]! = s.toArray[j]!
            · exact h
            · exact absurd (by unfold Lib.keeps; rw [decide_eq_true_iff]; exact Or.inr (by simpa using h)) hk
          rw [get_at hj, get_at (show j < s.length by omega)] at this
          rw [he, this]
    exact key j hj
theorem compact_up {s : List Int} (h : s.Pairwise (· ≤ ·)) : Up (Lib.compact s) := by
  unfold Up Lib.compact Lib.compactUpTo
  rw [List.pairwise_map, List.pairwise_filter]
  have hr : (List.range s.length).Pairwise (· < ·) := List.pairwise_lt_range
  refine List.Pairwise.imp_of_mem (fun {i j} hi hj hij _ hk => ?_) hr
  rw [List.mem_range] at hi hj
  unfold Lib.keeps at hk
  rw [decide_eq_true_iff] at hk
  have hk : s.toArray[j]! ≠ s.toArray[j - 1]! := by
    rcases hk with hk | hk
    · omega
    · exact hk
  rw [get_at hj, get_at (show j - 1 < s.length by omega)] at hk
  rw [get_at hi, get_at hj]
  have h1 : s[i] ≤ s[j - 1] := by
    by_cases e : i = j - 1
    · subst e; exact Int.le_refl _
    · exact List.pairwise_iff_getElem.1 h i (j - 1) hi (by omega) (by omega)
  have h2 : s[j - 1] ≤ s[j] := List.pairwise_iff_getElem.1 h (j - 1) j (by omega) hj (by omega)
  omega
theorem compact_sort (l : List Int) : Lib.compact (sortI l) = uniq l := up_ext (compact_up (sortI_up l)) (up_uniq l) (fun y => by rw [compact_mem, sortI_mem, mem_uniq])
theorem ins_lenle (x : Int) : ∀ l, (ins x l).length ≤ l.length + 1
  | [] => by simp [ins]
  | y :: l => by
    unfold ins
    split
    · simp
    · split
      · simp
      · have := ins_lenle x l; simp only [List.length_cons]; omega
theorem fold_lenle : ∀ l u, (fold u l).length ≤ u.length + l.length
  | [], u => by simp [fold]
  | x :: l, u => by
    rw [fold_cons]
    have h1 := fold_lenle l (ins x u)
    have h2 := ins_lenle x u
    rw [List.length_cons]
    omega
theorem uniq_lenle (l : List Int) : (uniq l).length ≤ l.length := by have := fold_lenle l []; simpa [uniq] using this
end Least
end Go.Proofs.Ytffgoekdjcempab

/- The contract of the program's bottom.Check. -/
namespace Go.Proofs.Ytffgoekdjcempab
open Go.ChangeShapes Go.WideShapes Go.ChangeAt Go.RowKit

namespace Least
/-- what is wrong with the numbers behind one -/
def scanE (last : Int) : List Int → Int
  | [] => 0
  | n :: l => if n < 0 ∨ 72057594037927936 ≤ n then 1 else if n ≤ last then 3 else scanE n l
/-- what Check answers -/
def bottomE (K : Int) (L : List Int) : Int := if K < 1 ∨ 40 < K then 1 else if K < (L.length : Int) then 2 else scanE (-1) L
def okB (l : List Int) : Prop := Up l ∧ ∀ y ∈ l, 0 ≤ y ∧ y < 72057594037927936
theorem scan_ok : ∀ {l : List Int} {last : Int}, Up (last :: l) → (∀ y ∈ l, 0 ≤ y ∧ y < 72057594037927936) → scanE last l = 0
  | [], _, _, _ => rfl
  | n :: l, last, hu, hr => by
    unfold Up at hu
    rw [List.pairwise_cons] at hu
    have h1 := hr n (by simp)
    have h2 := hu.1 n (by simp)
    rw [scanE, if_neg (by omega), if_neg (by omega)]
    exact scan_ok hu.2 (fun y hy => hr y (List.mem_cons_of_mem _ hy))
theorem scan_zero : ∀ {l : List Int} {last : Int}, scanE last l = 0 → Up (last :: l) ∧ ∀ y ∈ l, 0 ≤ y ∧ y < 72057594037927936
  | [], _, _ => ⟨by simp [Up], by simp⟩
  | n :: l, last, h => by
    rw [scanE] at h
    split at h
    · cases h
    · split at h
      · cases h
      · obtain ⟨h1, h2⟩ := scan_zero h
        refine ⟨?_, fun y hy => ?_⟩
        · unfold Up at h1 ⊢
          rw [List.pairwise_cons]
          refine ⟨fun y hy => ?_, h1⟩
          rcases List.mem_cons.1 hy with rfl | hy
          · omega
          · have := (List.pairwise_cons.1 h1).1 y hy; omega
        · rcases List.mem_cons.1 hy with rfl | hy
          · omega
          · exact h2 y hy
theorem bottomE_ok {K : Nat} {l : List Int} (h1 : 1 ≤ K) (h2 : K ≤ 40) (hl : l.length ≤ K) (hu : okB l) : bottomE K l = 0 := by
  unfold bottomE
  rw [if_neg (by omega), if_neg (by omega)]
  refine scan_ok ?_ hu.2
  unfold Up
  rw [List.pairwise_cons]
  exact ⟨fun y hy => by have := hu.2 y hy; omega, hu.1⟩
theorem bottomE_zero {K : Int} {l : List Int} (h : bottomE K l = 0) : 1 ≤ K ∧ K ≤ 40 ∧ (l.length : Int) ≤ K ∧ okB l := by
  unfold bottomE at h
  split at h
  · cases h
  · split at h
    · cases h
    · obtain ⟨h1, h2⟩ := scan_zero h
      exact ⟨by omega, by omega, by omega, (List.pairwise_cons.1 h1).2, h2⟩
theorem scan_at {l : List Int} {last : Int} {k : Nat} {y : Int} (h : l[k]? = some y) : scanE last (l.drop k) = if y < 0 ∨ 72057594037927936 ≤ y then 1 else if y ≤ last then 3 else scanE y (l.drop (k + 1)) := by
  obtain ⟨hk, rfl⟩ := List.getElem?_eq_some_iff.1 h
  rw [List.drop_eq_getElem_cons hk, scanE]
def lastAt (l : List Int) (k : Nat) : Int := match k with | 0 => -1 | k + 1 => match l[k]? with | some y => y | none => -1
theorem lastAt_succ {l : List Int} {k : Nat} {y : Int} (h : l[k]? = some y) : lastAt l (k + 1) = y := by unfold lastAt; simp only [h]
end Least
open Least
def bottomV (K : Int) (a : Option Addr) (len cap : Nat) : Value := .agg #[.int .i64 K, .slice a len cap]

set_option maxHeartbeats 400000 in
theorem inRange_any (n : Int) (w : World) : Calls Try.prog 64 #[.int .i64 n] w fun e w' => e = .returned (.bool (decide (0 ≤ n) && decide (n < 72057594037927936))) ∧ w = w' := by
  by_cases h0 : 0 ≤ n
  · rw [decide_eq_true h0, Bool.true_and]
    go_enter Try.func64, Try.ntmps64
    go_wp2
    go_ret
    exact ⟨rfl, rfl⟩
  · have h0' : n < 0 := by omega
    rw [decide_eq_false h0, Bool.false_and]
    clear h0
    go_enter Try.func64, Try.ntmps64
    go_wp2
    go_ret
    exact ⟨rfl, rfl⟩

set_option maxRecDepth 100000 in
set_option maxHeartbeats 2000000 in
theorem bcheck_any (K : Int) (a : Option Addr) (len cap : Nat) (l : List Int) (w : World) (h : Tab w a len cap 1 (l.map iC)) :
    Calls Try.prog 63 #[bottomV K a len cap] w fun e w' => e = .returned (.int .i64 (bottomE K l)) ∧ Below w.heap.size w w' := by
  unfold bottomV
  have hb : Below w.heap.size w (w.alloc (.cells #[.int .i64 K, .slice a len cap] 69)) := (Below.refl _ _).alloc (Nat.le_refl _) _
  have HB := Lib.hid hb
  have hl := h.hlen
  rw [List.length_map] at hl
  have hm := h.hmax
  unfold maxLen at hm
  have hle := h.hle
  clear hb
  by_cases h1 : K < 1
  · have E : bottomE K l = 1 := if_pos (Or.inl h1)
    rw [E]
    clear E h hl
    go_enter Try.func63, Try.ntmps63
    go_wp2
    go_ret
    exact ⟨rfl, HB.out⟩
  by_cases h2 : 40 < K
  · have E : bottomE K l = 1 := if_pos (Or.inr h2)
    rw [E]
    clear E h hl
    go_enter Try.func63, Try.ntmps63
    go_wp2
    go_ret
    exact ⟨rfl, HB.out⟩
  have h1' : 1 ≤ K := by omega
  have h2' : K ≤ 40 := by omega
  by_cases h3 : K < (len : Int)
  · have E : bottomE K l = 2 := (if_neg (by omega)).trans (if_pos (by omega))
    rw [E]
    clear E h hl h1 h2
    go_enter Try.func63, Try.ntmps63
    go_wp2
    go_ret
    exact ⟨rfl, HB.out⟩
  have h3' : (len : Int) ≤ K := by omega
  obtain ⟨E, hE⟩ : ∃ E, bottomE K l = E := ⟨_, rfl⟩
  have HE0 : Hid (scanE (lastAt l 0) (l.drop 0) = E) := Lib.hid (by rw [← hE]; exact ((if_neg (by omega)).trans (if_neg (by omega))).symm)
  rw [hE]
  have HT := Lib.hid h
  have HL := Lib.hid hl
  have HC : Hid (∀ wr, Below (w.alloc (.cells #[.int .i64 K, .slice a len cap] 69)).heap.size (w.alloc (.cells #[.int .i64 K, .slice a len cap] 69)) wr → wr.cell? ⟨w.heap.size, 1, none⟩ = some (.slice a len cap)) := Lib.hid (fun wr hb => by
    rw [hb.cell (by simp)]
    exact cell_blk (MapKept.heap_alloc w _).1 rfl)
  clear h hl hE h1 h2 h3
  go_enter Try.func63, Try.ntmps63
  go_wp2_with fail
  obtain ⟨wl, hwl⟩ : ∃ wl, w.alloc (.cells #[.int .i64 K, .slice a len cap] 69) = wl := ⟨_, rfl⟩
  rw [hwl] at HB HC ⊢
  clear hwl
  go_loopg [22] len (fun g i wr => ∃ k : Nat, k + g = len ∧ i = .int .i64 k ∧ Hid (scanE (lastAt l k) (l.drop k) = E) ∧ Hid (Below wl.heap.size wl wr))
  case atStart => exact ⟨0, by omega, rfl, HE0, Lib.hid (Below.refl _ _)⟩
  case round =>
    clear HE0
    obtain ⟨k, hk0, rfl, HE, HW⟩ := hrel
    have HJ := Lib.hid hk0
    have hk : k ≤ len := by omega
    clear hk0
    by_cases hlt : k < len
    · obtain ⟨y, hy⟩ : ∃ x, l[k]? = some x := ⟨_, List.getElem?_eq_getElem (by rw [HL.out]; exact hlt)⟩
      have hbb := below_on HB.out HW.out
      obtain ⟨b1, o1, ha, hbs, d0⟩ := HT.out.one hbb (map_get hy)
      have c1 := HC.out wr HW.out
      have hA := scan_at (last := lastAt l k) hy
      rw [HE.out] at hA
      have HLS := Lib.hid (lastAt_succ hy)
      have HA := Lib.hid hA
      clear hA
      have CI := Lib.hid (fun W => inRange_any y W)
      have HBB := Lib.hid hbb
      clear hbb
      by_cases g1 : y < 0 ∨ 72057594037927936 ≤ y
      · obtain rfl : E = 1 := by rw [HA.out, if_pos g1]
        rw [show (decide (0 ≤ y) && decide (y < 72057594037927936)) = false from by rw [← Bool.not_eq_true, Bool.and_eq_true, decide_eq_true_iff, decide_eq_true_iff]; omega] at CI
        subst ha
        clear g1 hy HA
        go_wp2_with fail
        refine (CI.out _).mono ?_
        rintro e w2 ⟨rfl, rfl⟩
        go_wp2
        go_ret
        exact ⟨rfl, HBB.out⟩
      rw [show (decide (0 ≤ y) && decide (y < 72057594037927936)) = true from by rw [Bool.and_eq_true, decide_eq_true_iff, decide_eq_true_iff]; omega] at CI
      have g2 : 0 ≤ y := by omega
      rw [if_neg g1] at HA
      clear g1
      by_cases hz : k = 0
      · subst hz
        have HA2 : Hid (E = scanE y (l.drop 1)) := Lib.hid (by rw [HA.out]; exact if_neg (by show ¬ y ≤ -1; omega))
        have HLS2 : Hid (lastAt l 1 = y) := HLS
        subst ha
        have d0' : wr.cell? ⟨b1, o1, none⟩ = some (.int .i64 y) := by simpa using d0
        clear hy HA HLS d0
        go_wp2_with fail
        refine (CI.out _).mono ?_
        rintro e w2 ⟨rfl, rfl⟩
        go_wp2_with fail
        go_roundg (len - 1)
        case measure => have := HJ.out; omega
        case rel => exact ⟨1, by omega, by go_num, Lib.hid (by rw [HLS2.out, ← HA2.out]), HW⟩
      · obtain ⟨j, rfl⟩ : ∃ j, k = j + 1 := ⟨k - 1, by omega⟩
        obtain ⟨x, hx⟩ : ∃ x, l[j]? = some x := ⟨_, List.getElem?_eq_getElem (by rw [HL.out]; omega)⟩
        obtain ⟨b2, o2, ha2, hbs2, d2⟩ := HT.out.one HBB.out (map_get hx)
        rw [lastAt_succ hx] at HA
        subst ha
        simp only [Option.some.injEq, Addr.mk.injEq, and_true] at ha2
        obtain ⟨rfl, rfl⟩ := ha2
        have e1 : (((j + 1 : Nat) : Int) - 1) = (j : Int) := by omega
        clear hy hx hz
        by_cases g3 : y ≤ x
        · obtain rfl : E = 3 := by rw [HA.out, if_pos g3]
          clear HA
          go_wp2_with fail
          refine (CI.out _).mono ?_
          rintro e w2 ⟨rfl, rfl⟩
          go_wp2
          go_ret
          exact ⟨rfl, HBB.out⟩
        · rw [if_neg g3] at HA
          have g3' : x < y := by omega
          clear g3
          go_wp2_with fail
          refine (CI.out _).mono ?_
          rintro e w2 ⟨rfl, rfl⟩
          go_wp2_with fail
          go_roundg (len - (j + 1 + 1))
          case measure => have := HJ.out; omega
          case rel => exact ⟨j + 1 + 1, by omega, by go_num, Lib.hid (by rw [HLS.out, ← HA.out]), HW⟩
    · obtain rfl : k = len := by omega
      obtain rfl : E = 0 := by rw [← HE.out, List.drop_of_length_le (by rw [HL.out]; omega)]; rfl
      go_wp2
      go_ret
      exact ⟨rfl, below_on HB.out HW.out⟩
end Go.Proofs.Ytffgoekdjcempab
