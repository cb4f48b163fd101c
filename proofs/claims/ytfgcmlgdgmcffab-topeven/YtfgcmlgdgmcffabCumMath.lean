/- Running sums, the place that a number picks among them, and how often each place is picked. Mathematics alone. -/
import Derived.Test.YtfgcmlgdgmcffabAliasSum
namespace Go.Proofs.Ytfgcmlgdgmcffab
namespace Cum

/-- the sum of the first i weights -/
def pre (l : List Int) (i : Nat) : Int := (l.take i).sum
theorem pre_zero (l : List Int) : pre l 0 = 0 := by simp [pre]
theorem pre_succ {l : List Int} {i : Nat} {x : Int} (h : l[i]? = some x) : pre l (i + 1) = pre l i + x := sum_take h
theorem pre_all {l : List Int} {i : Nat} (h : l.length ≤ i) : pre l i = l.sum := by unfold pre; rw [List.take_of_length_le h]
theorem pre_step {l : List Int} (hz : ∀ x ∈ l, 0 ≤ x) (i : Nat) : pre l i ≤ pre l (i + 1) := by
  cases hx : l[i]? with
  | none =>
    have h : l.length ≤ i := by simpa using hx
    rw [pre_all (i := i + 1) (by omega), pre_all h]
    exact Int.le_refl _
  | some x =>
    rw [pre_succ hx]
    have := hz x (List.mem_of_getElem? hx)
    omega
theorem pre_mono {l : List Int} (hz : ∀ x ∈ l, 0 ≤ x) {i j : Nat} (h : i ≤ j) : pre l i ≤ pre l j := by
  induction j with
  | zero => rw [Nat.le_zero.1 h]; exact Int.le_refl _
  | succ j ih =>
    by_cases h1 : i = j + 1
    · rw [h1]; exact Int.le_refl _
    · exact Int.le_trans (ih (by omega)) (pre_step hz j)
theorem pre_nonneg {l : List Int} (hz : ∀ x ∈ l, 0 ≤ x) (i : Nat) : 0 ≤ pre l i := by
  have := pre_mono hz (Nat.zero_le i)
  rwa [pre_zero] at this
theorem pre_le {l : List Int} (hz : ∀ x ∈ l, 0 ≤ x) (i : Nat) : pre l i ≤ l.sum := by
  by_cases h : l.length ≤ i
  · rw [pre_all h]; exact Int.le_refl _
  · have := pre_mono hz (i := i) (j := l.length) (by omega)
    rwa [pre_all (Nat.le_refl _)] at this

/-- the running sums -/
def sumsOf (l : List Int) : List Int := (List.range l.length).map (fun i => pre l (i + 1))
theorem sumsOf_len (l : List Int) : (sumsOf l).length = l.length := by simp [sumsOf]
theorem sumsOf_get {l : List Int} {i : Nat} (h : i < l.length) : (sumsOf l)[i]? = some (pre l (i + 1)) := by
  simp [sumsOf, h]
theorem sumsOf_mem {l : List Int} (hz : ∀ x ∈ l, 0 ≤ x) {s : Int} (h : s ∈ sumsOf l) : 0 ≤ s ∧ s ≤ l.sum := by
  obtain ⟨i, _, rfl⟩ := List.mem_map.1 h
  exact ⟨pre_nonneg hz _, pre_le hz _⟩
/-- the running sums as they come, zeros behind them -/
def sumsTo (l : List Int) (k : Nat) : List Int := (sumsOf l).take k ++ List.replicate (l.length - k) 0
theorem sumsTo_zero (l : List Int) : sumsTo l 0 = List.replicate l.length 0 := by simp [sumsTo]
theorem sumsTo_all (l : List Int) : sumsTo l l.length = sumsOf l := by
  unfold sumsTo
  rw [List.take_of_length_le (by rw [sumsOf_len]; exact Nat.le_refl _)]
  simp
theorem sumsTo_len {l : List Int} {k : Nat} (h : k ≤ l.length) : (sumsTo l k).length = l.length := by
  unfold sumsTo
  rw [List.length_append, List.length_take, sumsOf_len, List.length_replicate]
  omega
theorem sumsTo_get {l : List Int} {k : Nat} (h : k < l.length) : (sumsTo l k)[k]? = some 0 := by
  unfold sumsTo
  rw [List.getElem?_append_right (by rw [List.length_take, sumsOf_len]; omega), List.length_take, sumsOf_len, List.getElem?_replicate, if_pos (by omega)]
theorem sumsTo_succ {l : List Int} {k : Nat} (h : k < l.length) : (sumsTo l k).set k (pre l (k + 1)) = sumsTo l (k + 1) := by
  unfold sumsTo
  have e : ((sumsOf l).take k).length = k := by rw [List.length_take, sumsOf_len]; omega
  rw [List.set_append_right _ _ (by omega), e, Nat.sub_self, show l.length - k = (l.length - (k + 1)) + 1 from by omega, List.replicate_succ, List.set_cons_zero, List.take_add_one, sumsOf_get h]
  simp

/-- where the first running sum lies that, k times taken, is greater than x -/
def place (l : List Int) (k x : Int) : Nat := (sumsOf l).findIdx (fun s => decide (x < s * k))
theorem place_lt {l : List Int} {k x : Int} (hx : 0 ≤ x) (h : x < l.sum * k) : place l k x < l.length := by
  unfold place
  rw [← sumsOf_len l, List.findIdx_lt_length]
  cases hl : l.length with
  | zero =>
    have : l = [] := List.length_eq_zero_iff.1 hl
    subst this
    simp at h
    omega
  | succ n =>
    refine ⟨pre l (n + 1), List.mem_of_getElem? (sumsOf_get (by omega)), ?_⟩
    rw [pre_all (by omega)]
    exact decide_eq_true h
theorem place_iff {l : List Int} {k x : Int} (hz : ∀ x ∈ l, 0 ≤ x) (hk : 0 ≤ k) (hx : 0 ≤ x) {i : Nat} (hi : i < l.length) : place l k x = i ↔ pre l i * k ≤ x ∧ x < pre l (i + 1) * k := by
  have g : ∀ j (h : j < (sumsOf l).length), (sumsOf l)[j] = pre l (j + 1) := fun j h => by
    have := sumsOf_get (l := l) (i := j) (by rwa [sumsOf_len] at h)
    rw [List.getElem?_eq_getElem h] at this
    exact Option.some.inj this
  unfold place
  rw [List.findIdx_eq (by rw [sumsOf_len]; exact hi)]
  constructor
  · rintro ⟨h1, h2⟩
    rw [g, decide_eq_true_iff] at h1
    refine ⟨?_, h1⟩
    cases i with
    | zero => rw [pre_zero, Int.zero_mul]; exact hx
    | succ i =>
      have := h2 i (by omega)
      rw [g, decide_eq_false_iff_not] at this
      omega
  · rintro ⟨h1, h2⟩
    refine ⟨by rw [g, decide_eq_true_iff]; exact h2, fun j hj => ?_⟩
    rw [g, decide_eq_false_iff_not]
    have := Int.mul_le_mul_of_nonneg_right (pre_mono hz (i := j + 1) (j := i) (by omega)) hk
    omega
theorem place_spec {l : List Int} {k x : Int} (hz : ∀ x ∈ l, 0 ≤ x) (hk : 0 ≤ k) (hx : 0 ≤ x) (h : x < l.sum * k) : place l k x < l.length ∧ pre l (place l k x) * k ≤ x ∧ x < pre l (place l k x + 1) * k :=
  ⟨place_lt hx h, (place_iff hz hk hx (place_lt hx h)).1 rfl⟩

/-- how often each of n places is picked by f up to m -/
def tally (f : Nat → Nat) (n m : Nat) : List Int := (List.range n).map (fun i => (((List.range m).countP (fun j => f j == i) : Nat) : Int))
theorem tally_len (f : Nat → Nat) (n m : Nat) : (tally f n m).length = n := by simp [tally]
theorem tally_get {f : Nat → Nat} {n m i : Nat} (h : i < n) : (tally f n m)[i]? = some (((List.range m).countP (fun j => f j == i) : Nat) : Int) := by simp [tally, h]
theorem tally_zero (f : Nat → Nat) (n : Nat) : tally f n 0 = List.replicate n 0 := by
  apply List.ext_getElem?
  intro i
  by_cases h : i < n
  · rw [tally_get h, List.getElem?_replicate, if_pos h]; rfl
  · rw [List.getElem?_eq_none (by rw [tally_len]; omega), List.getElem?_eq_none (by rw [List.length_replicate]; omega)]
theorem countP_range_succ (p : Nat → Bool) (m : Nat) : (List.range (m + 1)).countP p = (List.range m).countP p + (if p m = true then 1 else 0) := by
  rw [List.range_succ, List.countP_append, List.countP_cons, List.countP_nil, Nat.zero_add]
theorem tally_succ {f : Nat → Nat} {n m : Nat} {y : Int} (hy : (tally f n m)[f m]? = some y) : (tally f n m).set (f m) (y + 1) = tally f n (m + 1) := by
  have hf : f m < n := by have := (List.getElem?_eq_some_iff.1 hy).1; rwa [tally_len] at this
  rw [tally_get hf, Option.some.injEq] at hy
  apply List.ext_getElem?
  intro i
  by_cases h : i < n
  · rw [List.getElem?_set, tally_get h, tally_get h, countP_range_succ]
    by_cases e : f m = i
    · subst e
      rw [if_pos rfl, if_pos (by rw [tally_len]; exact h), if_pos (by simp), ← hy]
      rfl
    · rw [if_neg e, if_neg (by simpa using e)]
      rfl
  · rw [List.getElem?_eq_none (by rw [List.length_set, tally_len]; omega), List.getElem?_eq_none (by rw [tally_len]; omega)]
theorem countP_le (p : Nat → Bool) (m : Nat) : (List.range m).countP p ≤ m := by
  have := List.countP_le_length (p := p) (l := List.range m)
  rwa [List.length_range] at this
theorem tally_mem {f : Nat → Nat} {n m : Nat} {y : Int} (h : y ∈ tally f n m) : 0 ≤ y ∧ y ≤ (m : Int) := by
  obtain ⟨i, _, rfl⟩ := List.mem_map.1 h
  have := countP_le (fun j => f j == i) m
  omega
/-- numbers from a on, below b: b - a of them -/
theorem countP_between {p : Nat → Bool} {a b m : Nat} (hab : a ≤ b) (hbm : b ≤ m) (hp : ∀ j, j < m → (p j = true ↔ a ≤ j ∧ j < b)) : (List.range m).countP p = b - a := by
  have key : ∀ k, k ≤ m → (List.range k).countP p = min k b - min k a := by
    intro k
    induction k with
    | zero => intro _; simp
    | succ k ih =>
      intro hk
      rw [countP_range_succ, ih (by omega)]
      have := hp k (by omega)
      by_cases h : p k = true
      · rw [if_pos h]
        have := this.1 h
        omega
      · rw [if_neg h]
        have : ¬ (a ≤ k ∧ k < b) := fun h' => h (this.2 h')
        omega
  rw [key m (Nat.le_refl _)]
  omega
/-- the sum of what a tally counts -/
theorem sum_tally {f : Nat → Nat} {n m : Nat} (hf : ∀ j, j < m → f j < n) : (tally f n m).sum = (m : Int) := by
  induction m with
  | zero => rw [tally_zero]; simp
  | succ m ih =>
    have h1 := hf m (by omega)
    obtain ⟨y, hy⟩ : ∃ y, (tally f n m)[f m]? = some y := ⟨_, List.getElem?_eq_getElem (by rw [tally_len]; exact h1)⟩
    rw [← tally_succ hy]
    have hs : ∀ (l : List Int) (i : Nat) (y z : Int), l[i]? = some y → (l.set i z).sum = l.sum + z - y := by
      intro l
      induction l with
      | nil => intro i y z h; simp at h
      | cons a l ih =>
        intro i y z h
        cases i with
        | zero => simp at h; subst h; simp; omega
        | succ i => simp at h; rw [List.set_cons_succ, List.sum_cons, ih i y z h, List.sum_cons]; omega
    rw [hs _ _ _ _ hy, ih (fun j hj => hf j (by omega))]
    omega
end Cum
end Go.Proofs.Ytfgcmlgdgmcffab
