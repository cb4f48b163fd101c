/- Binomial numbers (Pascal's rule, the product rule, symmetry, sums) and rows in colexicographic order. Mathematics alone; no Go text in sight. -/
namespace Go.Proofs.Ytoijeafhohcbdaa
namespace Binom

def binom : Nat → Nat → Nat
  | _, 0 => 1
  | 0, _ + 1 => 0
  | n + 1, k + 1 => binom n k + binom n (k + 1)

theorem zero_right (n : Nat) : binom n 0 = 1 := by cases n <;> rfl
theorem zero_succ (k : Nat) : binom 0 (k + 1) = 0 := rfl
theorem succ_succ (n k : Nat) : binom (n + 1) (k + 1) = binom n k + binom n (k + 1) := rfl
theorem big : ∀ (n k : Nat), n < k → binom n k = 0
  | _, 0, h => by omega
  | 0, _ + 1, _ => rfl
  | n + 1, k + 1, h => by rw [succ_succ, big n k (by omega), big n (k + 1) (by omega)]
theorem self (n : Nat) : binom n n = 1 := by
  induction n with
  | zero => rfl
  | succ n ih => rw [succ_succ, ih, big n (n + 1) (by omega)]
theorem pos : ∀ (n k : Nat), k ≤ n → 0 < binom n k
  | n, 0, _ => by rw [zero_right]; decide
  | 0, k + 1, h => by omega
  | n + 1, k + 1, h => by rw [succ_succ]; have := pos n k (by omega); omega
theorem one (n : Nat) : binom n 1 = n := by
  induction n with
  | zero => rfl
  | succ n ih => rw [succ_succ, zero_right, ih]; omega
theorem le_two : ∀ (n k : Nat), binom n k ≤ 2 ^ n
  | n, 0 => by rw [zero_right]; exact Nat.one_le_two_pow
  | 0, _ + 1 => by rw [zero_succ]; omega
  | n + 1, k + 1 => by rw [succ_succ, Nat.pow_succ]; have := le_two n k; have := le_two n (k + 1); omega
theorem le_max {n : Nat} (k : Nat) (h : n ≤ 30) : binom n k ≤ 1073741824 := by
  have h1 := le_two n k
  have h2 : 2 ^ n ≤ 2 ^ 30 := Nat.pow_le_pow_right (by decide) h
  have h3 : (2 : Nat) ^ 30 = 1073741824 := by decide
  omega
theorem mono_step (n k : Nat) : binom n k ≤ binom (n + 1) k := by
  cases k with
  | zero => rw [zero_right, zero_right]; omega
  | succ k => rw [succ_succ]; omega
theorem mono {n m : Nat} (k : Nat) (h : n ≤ m) : binom n k ≤ binom m k := by
  induction h with
  | refl => omega
  | step _ ih => exact Nat.le_trans ih (mono_step _ _)
/-- (k+1) (n+1 over k+1) = (n+1) (n over k) -/
theorem absorb : ∀ (n k : Nat), (k + 1) * binom (n + 1) (k + 1) = (n + 1) * binom n k := by
  intro n
  induction n with
  | zero =>
    intro k
    cases k with
    | zero => rfl
    | succ k => rw [succ_succ, zero_succ, zero_succ, Nat.mul_zero]
  | succ n ih =>
    intro k
    cases k with
    | zero => rw [one, zero_right, Nat.one_mul, Nat.mul_one]
    | succ k =>
      have h1 := ih k
      have h2 := ih (k + 1)
      rw [succ_succ (n + 1) (k + 1), Nat.mul_add, h2]
      have h3 : (k + 1 + 1) * binom (n + 1) (k + 1) = (k + 1) * binom (n + 1) (k + 1) + binom (n + 1) (k + 1) := by rw [Nat.succ_mul]
      rw [h3, h1]
      have h4 : (n + 1) * binom n k + (n + 1) * binom n (k + 1) = (n + 1) * binom (n + 1) (k + 1) := by rw [← Nat.mul_add, ← succ_succ]
      have h5 : (n + 1 + 1) * binom (n + 1) (k + 1) = (n + 1) * binom (n + 1) (k + 1) + binom (n + 1) (k + 1) := by rw [Nat.succ_mul]
      omega
/-- the product's step -/
theorem step {n k : Nat} (h : k ≤ n) : binom n k * (n - k) = (k + 1) * binom n (k + 1) := by
  have h1 := absorb n k
  rw [succ_succ, Nat.mul_add] at h1
  have h2 : (n + 1) * binom n k = (n - k) * binom n k + (k + 1) * binom n k := by rw [← Nat.add_mul]; congr 1; omega
  rw [Nat.mul_comm (binom n k)]
  omega
/-- the step as the program reckons it -/
theorem step_int (n k : Nat) : ((binom n k : Int) * ((n : Int) - k)).tdiv ((k : Int) + 1) = (binom n (k + 1) : Int) := by
  by_cases h : k ≤ n
  · have e : (binom n k : Int) * ((n : Int) - k) = ((k : Int) + 1) * (binom n (k + 1) : Int) := by
      have := step h
      have h2 : ((binom n k * (n - k) : Nat) : Int) = (((k + 1) * binom n (k + 1) : Nat) : Int) := by rw [this]
      rw [Int.natCast_mul, Int.natCast_mul, Int.natCast_sub h] at h2
      simpa using h2
    rw [e]
    exact Int.mul_tdiv_cancel_left _ (by omega)
  · rw [big n k (by omega), big n (k + 1) (by omega)]
    simp
theorem symm : ∀ (n k : Nat), k ≤ n → binom n (n - k) = binom n k := by
  intro n
  induction n with
  | zero => intro k h; obtain rfl : k = 0 := by omega
            rfl
  | succ n ih =>
    intro k h
    cases k with
    | zero => rw [Nat.sub_zero, self, zero_right]
    | succ k =>
      by_cases hk : k = n
      · subst hk
        rw [Nat.sub_self, zero_right, self]
      · obtain ⟨d, rfl⟩ : ∃ d, n = k + 1 + d := ⟨n - k - 1, by omega⟩
        have e : k + 1 + d + 1 - (k + 1) = d + 1 := by omega
        have e1 := ih k (by omega)
        have e2 := ih (k + 1) (by omega)
        have e3 : k + 1 + d - k = d + 1 := by omega
        have e4 : k + 1 + d - (k + 1) = d := by omega
        rw [e3] at e1
        rw [e4] at e2
        rw [e, succ_succ, e1, e2, succ_succ]
        omega
/-! ### sums -/
def sumTo (f : Nat → Nat) : Nat → Nat
  | 0 => 0
  | k + 1 => sumTo f k + f k
theorem sumTo_congr {f g : Nat → Nat} : ∀ {k : Nat}, (∀ i, i < k → f i = g i) → sumTo f k = sumTo g k
  | 0, _ => rfl
  | k + 1, h => by rw [sumTo, sumTo, sumTo_congr (fun i hi => h i (by omega)), h k (by omega)]
theorem sumTo_add (f g : Nat → Nat) : ∀ k, sumTo (fun i => f i + g i) k = sumTo f k + sumTo g k
  | 0 => rfl
  | k + 1 => by rw [sumTo, sumTo, sumTo, sumTo_add f g k]; omega
theorem sumTo_head (f : Nat → Nat) : ∀ k, sumTo f (k + 1) = f 0 + sumTo (fun i => f (i + 1)) k
  | 0 => by simp [sumTo]
  | k + 1 => by rw [sumTo, sumTo_head f k, sumTo]; omega
theorem sumTo_mono (f : Nat → Nat) {k m : Nat} (h : k ≤ m) : sumTo f k ≤ sumTo f m := by
  induction h with
  | refl => omega
  | step _ ih => rw [sumTo]; omega
theorem sumTo_zero {f : Nat → Nat} : ∀ {k : Nat}, (∀ i, i < k → f i = 0) → sumTo f k = 0
  | 0, _ => rfl
  | k + 1, h => by rw [sumTo, sumTo_zero (fun i hi => h i (by omega)), h k (by omega)]
theorem vandermonde : ∀ (n m k : Nat), sumTo (fun i => binom n i * binom m (k - i)) (k + 1) = binom (n + m) k := by
  intro n
  induction n with
  | zero =>
    intro m k
    rw [sumTo_head, sumTo_zero, zero_right, Nat.one_mul, Nat.sub_zero, Nat.zero_add, Nat.add_zero]
    intro i _
    rw [zero_succ, Nat.zero_mul]
  | succ n ih =>
    intro m k
    cases k with
    | zero => simp [sumTo, zero_right]
    | succ k =>
      have h1 := ih m (k + 1)
      have h2 := ih m k
      rw [sumTo_head] at h1 ⊢
      have e : ∀ i, i < k + 1 → binom (n + 1) (i + 1) * binom m (k + 1 - (i + 1)) = binom n i * binom m (k - i) + binom n (i + 1) * binom m (k + 1 - (i + 1)) := by
        intro i _
        rw [succ_succ, Nat.add_mul, show k + 1 - (i + 1) = k - i from by omega]
      rw [sumTo_congr e, sumTo_add, h2]
      rw [zero_right, Nat.one_mul] at h1 ⊢
      rw [show n + 1 + m = n + m + 1 from by omega, succ_succ]
      omega
theorem row_sum : ∀ n, sumTo (fun i => binom n i) (n + 1) = 2 ^ n := by
  intro n
  induction n with
  | zero => rfl
  | succ n ih =>
    rw [sumTo_head, zero_right]
    have e : ∀ i, i < n + 1 → binom (n + 1) (i + 1) = binom n i + binom n (i + 1) := fun i _ => succ_succ n i
    rw [sumTo_congr e, sumTo_add, ih]
    have h : sumTo (fun i => binom n i) (n + 1 + 1) = 1 + sumTo (fun i => binom n (i + 1)) (n + 1) := by rw [sumTo_head, zero_right]
    rw [sumTo, ih, big n (n + 1) (by omega)] at h
    rw [Nat.pow_succ]
    omega
/-- from k on: the hockey stick -/
theorem hockey (k : Nat) : ∀ d, sumTo (fun i => binom (k + i) k) d = binom (k + d) (k + 1)
  | 0 => by rw [sumTo, Nat.add_zero, big k (k + 1) (by omega)]
  | d + 1 => by rw [sumTo, hockey k d, show k + (d + 1) = k + d + 1 from rfl, succ_succ]; omega

/-! ### rows in colexicographic order -/
/-- the greatest number up to m which at most r rows precede -/
def lastOf (k r : Nat) : Nat → Nat
  | 0 => 0
  | m + 1 => if r < binom (m + 1) k then lastOf k r m else m + 1
theorem lastOf_le (k r : Nat) : ∀ m, lastOf k r m ≤ m
  | 0 => by rw [lastOf]; omega
  | m + 1 => by rw [lastOf]; split; have := lastOf_le k r m; omega; omega
theorem lastOf_low (k r : Nat) : ∀ m, binom (lastOf (k + 1) r m) (k + 1) ≤ r
  | 0 => by rw [lastOf, zero_succ]; omega
  | m + 1 => by rw [lastOf]; split; exact lastOf_low k r m; omega
theorem lastOf_high (k r : Nat) : ∀ m, r < binom (m + 1) k → r < binom (lastOf k r m + 1) k
  | 0, h => h
  | m + 1, h => by rw [lastOf]; split; exact lastOf_high k r m (by assumption); exact h
theorem lastOf_stay {k r m : Nat} (h : binom m k ≤ r) : lastOf k r m = m := by
  cases m with
  | zero => rfl
  | succ m => rw [lastOf, if_neg (by omega)]
theorem lastOf_down {k r m : Nat} (h : r < binom (m + 1) k) : lastOf k r (m + 1) = lastOf k r m := by rw [lastOf, if_pos h]
theorem lastOf_uniq {k r m x : Nat} (hx : x ≤ m) (h1 : binom x k ≤ r) (h2 : r < binom (x + 1) k) : lastOf k r m = x := by
  induction m with
  | zero => obtain rfl : x = 0 := by omega
            rfl
  | succ m ih =>
    by_cases e : x = m + 1
    · subst e; exact lastOf_stay h1
    · rw [lastOf_down (Nat.lt_of_lt_of_le h2 (mono k (by omega)))]
      exact ih (by omega)
/-- the row of k numbers below top that has the rank r -/
def someOf : Nat → Nat → Nat → List Nat
  | 0, _, _ => []
  | k + 1, top, r => someOf k (lastOf (k + 1) r (top - 1)) (r - binom (lastOf (k + 1) r (top - 1)) (k + 1)) ++ [lastOf (k + 1) r (top - 1)]
theorem someOf_len : ∀ k top r, (someOf k top r).length = k
  | 0, _, _ => rfl
  | k + 1, top, r => by rw [someOf, List.length_append, someOf_len]; rfl
theorem last_ok {k top r : Nat} (h : r < binom top (k + 1)) : lastOf (k + 1) r (top - 1) < top ∧ binom (lastOf (k + 1) r (top - 1)) (k + 1) ≤ r ∧ r - binom (lastOf (k + 1) r (top - 1)) (k + 1) < binom (lastOf (k + 1) r (top - 1)) k := by
  have ht : top ≠ 0 := by intro e; subst e; rw [zero_succ] at h; omega
  obtain ⟨t, rfl⟩ : ∃ t, top = t + 1 := ⟨top - 1, by omega⟩
  rw [Nat.add_sub_cancel]
  have h1 := lastOf_le (k + 1) r t
  have h2 := lastOf_low k r t
  have h3 := lastOf_high (k + 1) r t h
  rw [succ_succ] at h3
  omega
def rankFrom : Nat → List Nat → Nat
  | _, [] => 0
  | i, x :: l => binom x (i + 1) + rankFrom (i + 1) l
theorem rankFrom_snoc : ∀ (l : List Nat) (i x : Nat), rankFrom i (l ++ [x]) = rankFrom i l + binom x (i + l.length + 1)
  | [], i, x => by simp [rankFrom]
  | y :: l, i, x => by rw [List.cons_append, rankFrom, rankFrom, rankFrom_snoc l (i + 1) x, List.length_cons, show i + 1 + l.length + 1 = i + (l.length + 1) + 1 from by omega]; omega
/-- rising, and all below top -/
def rising : Nat → List Nat → Prop
  | _, [] => True
  | top, l => l.Pairwise (· < ·) ∧ ∀ x ∈ l, x < top
theorem rising_iff (top : Nat) (l : List Nat) : rising top l ↔ l.Pairwise (· < ·) ∧ ∀ x ∈ l, x < top := by
  cases l with
  | nil => simp [rising]
  | cons y l => rfl
theorem rising_snoc {top x : Nat} {l : List Nat} : rising top (l ++ [x]) ↔ rising x l ∧ x < top := by
  rw [rising_iff, rising_iff, List.pairwise_append]
  constructor
  · rintro ⟨⟨h1, _, h2⟩, h3⟩
    exact ⟨⟨h1, fun y hy => h2 y hy x (by simp)⟩, h3 x (by simp)⟩
  · rintro ⟨⟨h1, h2⟩, h3⟩
    refine ⟨⟨h1, by simp, fun y hy z hz => ?_⟩, fun y hy => ?_⟩
    · simp at hz; subst hz; exact h2 y hy
    · rcases List.mem_append.1 hy with hy | hy
      · exact Nat.lt_trans (h2 y hy) h3
      · simp at hy; subst hy; exact h3
theorem someOf_rising : ∀ k top r, r < binom top k → rising top (someOf k top r)
  | 0, _, _, _ => trivial
  | k + 1, top, r, h => by
    obtain ⟨h1, _, h3⟩ := last_ok h
    rw [someOf, rising_snoc]
    exact ⟨someOf_rising k _ _ h3, h1⟩
theorem rank_some : ∀ k top r, r < binom top k → rankFrom 0 (someOf k top r) = r
  | 0, top, r, h => by rw [zero_right] at h; rw [someOf, rankFrom]; omega
  | k + 1, top, r, h => by
    obtain ⟨_, h2, h3⟩ := last_ok h
    rw [someOf, rankFrom_snoc, rank_some k _ _ h3, someOf_len, Nat.zero_add]
    omega
theorem snoc_cases (l : List Nat) : l = [] ∨ ∃ m x, l = m ++ [x] := by
  rcases List.eq_nil_or_concat l with h | ⟨m, x, h⟩
  · exact Or.inl h
  · exact Or.inr ⟨m, x, by simpa using h⟩
theorem some_rank : ∀ (k top : Nat) (l : List Nat), l.length = k → rising top l → rankFrom 0 l < binom top k ∧ someOf k top (rankFrom 0 l) = l
  | 0, top, l, hl, _ => by
    obtain rfl := List.length_eq_zero_iff.1 hl
    rw [zero_right]
    exact ⟨by decide, rfl⟩
  | k + 1, top, l, hl, hr => by
    rcases snoc_cases l with rfl | ⟨m, x, rfl⟩
    · simp at hl
    · rw [List.length_append] at hl
      have hm : m.length = k := by simp at hl; omega
      obtain ⟨h1, h2⟩ := rising_snoc.1 hr
      obtain ⟨h3, h4⟩ := some_rank k x m hm h1
      have e : rankFrom 0 (m ++ [x]) = rankFrom 0 m + binom x (k + 1) := by rw [rankFrom_snoc, hm, Nat.zero_add]
      have h5 : rankFrom 0 (m ++ [x]) < binom (x + 1) (k + 1) := by rw [e, succ_succ]; omega
      refine ⟨Nat.lt_of_lt_of_le h5 (mono _ (by omega)), ?_⟩
      have hx : lastOf (k + 1) (rankFrom 0 (m ++ [x])) (top - 1) = x := lastOf_uniq (by omega) (by rw [e]; omega) h5
      rw [someOf, hx, show rankFrom 0 (m ++ [x]) - binom x (k + 1) = rankFrom 0 m from by omega, h4]
/-- the last number is below n just if the rank is below 'n over k' -/
theorem some_below {k top r n : Nat} (h : r < binom top (k + 1)) : lastOf (k + 1) r (top - 1) < n ↔ r < binom n (k + 1) := by
  obtain ⟨h1, h2, h3⟩ := last_ok h
  have h4 : r < binom (lastOf (k + 1) r (top - 1) + 1) (k + 1) := by rw [succ_succ]; omega
  constructor
  · intro hn
    exact Nat.lt_of_lt_of_le h4 (mono _ hn)
  · intro hn
    rcases Nat.lt_or_ge (lastOf (k + 1) r (top - 1)) n with h5 | h5
    · exact h5
    · exact absurd (mono (k + 1) h5) (by omega)
/-- the ranks r and r + 1: at the last place at which the rows differ the first has the lesser number -/
theorem some_next : ∀ (k top r : Nat), r + 1 < binom top k → ∃ j, ∃ x y, j < k ∧ (someOf k top r)[j]? = some x ∧ (someOf k top (r + 1))[j]? = some y ∧ x < y ∧ ∀ i, j < i → (someOf k top r)[i]? = (someOf k top (r + 1))[i]?
  | 0, top, r, h => by rw [zero_right] at h; omega
  | k + 1, top, r, h => by
    obtain ⟨a1, a2, a3⟩ := last_ok (show r < binom top (k + 1) by omega)
    obtain ⟨b1, b2, b3⟩ := last_ok h
    have hle : lastOf (k + 1) r (top - 1) ≤ lastOf (k + 1) (r + 1) (top - 1) := by
      have h5 := (some_below (n := lastOf (k + 1) (r + 1) (top - 1) + 1) (show r < binom top (k + 1) by omega)).2
      have h6 := (some_below (n := lastOf (k + 1) (r + 1) (top - 1) + 1) h).1 (by omega)
      have := h5 (by omega)
      omega
    rw [someOf, someOf]
    generalize lastOf (k + 1) r (top - 1) = x at *
    generalize lastOf (k + 1) (r + 1) (top - 1) = y at *
    by_cases e : x = y
    · subst e
      have e2 : r + 1 - binom x (k + 1) = r - binom x (k + 1) + 1 := by omega
      rw [e2] at b3 ⊢
      obtain ⟨j, u, v, hj, h1, h2, h3, h4⟩ := some_next k x (r - binom x (k + 1)) b3
      have l1 := someOf_len k x (r - binom x (k + 1))
      have l2 := someOf_len k x (r - binom x (k + 1) + 1)
      refine ⟨j, u, v, by omega, ?_, ?_, h3, fun i hi => ?_⟩
      · rw [List.getElem?_append_left (by omega)]; exact h1
      · rw [List.getElem?_append_left (by omega)]; exact h2
      · by_cases hk : i < k
        · rw [List.getElem?_append_left (by omega), List.getElem?_append_left (by omega)]; exact h4 i hi
        · rw [List.getElem?_append_right (by omega), List.getElem?_append_right (by omega), l1, l2]
    · refine ⟨k, x, y, by omega, ?_, ?_, by omega, fun i hi => ?_⟩
      · rw [List.getElem?_append_right (by rw [someOf_len]; omega), someOf_len]; simp
      · rw [List.getElem?_append_right (by rw [someOf_len]; omega), someOf_len]; simp
      · rw [List.getElem?_eq_none (by rw [List.length_append, someOf_len]; simp; omega), List.getElem?_eq_none (by rw [List.length_append, someOf_len]; simp; omega)]

end Binom
end Go.Proofs.Ytoijeafhohcbdaa
