/- Orders of a row and their ranks (Lehmer), dealing (Fisher, Yates). Mathematics alone; no Go text in sight. -/
namespace Go.Proofs.YtffgoekdjcempaaGreat
namespace Digit

def fact : Nat → Nat
  | 0 => 1
  | n + 1 => (n + 1) * fact n
theorem fact_pos : ∀ n, 0 < fact n
  | 0 => by decide
  | n + 1 => by rw [fact]; exact Nat.mul_pos (by omega) (fact_pos n)
theorem fact_le {n m : Nat} (h : n ≤ m) : fact n ≤ fact m := by
  induction h with
  | refl => omega
  | step _ ih => rw [fact]; exact Nat.le_trans ih (Nat.le_mul_of_pos_left _ (by omega))
theorem fact_max {n : Nat} (h : n ≤ 12) : fact n ≤ 479001600 := Nat.le_trans (fact_le h) (by decide)

def less (x : Int) (l : List Int) : Nat := l.countP (fun m => decide (m < x))
theorem less_perm {x : Int} {l m : List Int} (h : l.Perm m) : less x l = less x m := h.countP_eq _
theorem less_app (x : Int) (l m : List Int) : less x (l ++ m) = less x l + less x m := List.countP_append
theorem less_cons (x y : Int) (l : List Int) : less x (y :: l) = less x l + if y < x then 1 else 0 := by
  unfold less
  rw [List.countP_cons]
  simp
theorem less_le (x : Int) (l : List Int) : less x l ≤ l.length := List.countP_le_length
theorem less_all {x : Int} {l : List Int} (h : ∀ y ∈ l, y < x) : less x l = l.length := by
  unfold less
  rw [List.countP_eq_length]
  intro y hy
  simpa using h y hy
theorem less_none {x : Int} {l : List Int} (h : ∀ y ∈ l, x ≤ y) : less x l = 0 := by
  unfold less
  rw [List.countP_eq_zero]
  intro y hy
  simpa using h y hy

def rankOf : List Int → Nat
  | [] => 0
  | x :: r => less x r * fact r.length + rankOf r
def orderN : Nat → List Int → Nat → List Int
  | 0, _, _ => []
  | n + 1, left, r => (left[r / fact n]?).getD 0 :: orderN n (left.eraseIdx (r / fact n)) (r % fact n)
theorem orderN_len : ∀ n left r, (orderN n left r).length = n
  | 0, _, _ => rfl
  | n + 1, left, r => by rw [orderN, List.length_cons, orderN_len]
theorem div_lt {n r : Nat} (h : r < fact (n + 1)) : r / fact n < n + 1 := Nat.div_lt_of_lt_mul (by rw [Nat.mul_comm]; exact h)
theorem split_at {l : List Int} {i : Nat} (h : i < l.length) : ∃ A x B, l = A ++ x :: B ∧ A.length = i ∧ (l[i]?).getD 0 = x ∧ l.eraseIdx i = A ++ B := by
  refine ⟨l.take i, l[i], l.drop (i + 1), ?_, ?_, ?_, ?_⟩
  · rw [← List.drop_eq_getElem_cons h, List.take_append_drop]
  · rw [List.length_take]; omega
  · rw [List.getElem?_eq_getElem h]; rfl
  · exact List.eraseIdx_eq_take_drop_succ ..
def Up (l : List Int) : Prop := l.Pairwise (· < ·)
theorem up_mid {A B : List Int} {x : Int} (h : Up (A ++ x :: B)) : Up (A ++ B) ∧ (∀ y ∈ A, y < x) ∧ ∀ y ∈ B, x < y := by
  unfold Up at *
  rw [List.pairwise_append, List.pairwise_cons] at h
  obtain ⟨h1, ⟨h2, h3⟩, h4⟩ := h
  refine ⟨?_, fun y hy => h4 y hy x (by simp), h2⟩
  rw [List.pairwise_append]
  exact ⟨h1, h3, fun a ha b hb => h4 a ha b (by simp [hb])⟩
theorem less_mid {A B : List Int} {x : Int} (h : Up (A ++ x :: B)) : less x (A ++ B) = A.length := by
  obtain ⟨_, h1, h2⟩ := up_mid h
  rw [less_app, less_all h1, less_none (fun y hy => Int.le_of_lt (h2 y hy)), Nat.add_zero]
theorem order_perm : ∀ n left r, left.length = n → r < fact n → (orderN n left r).Perm left
  | 0, left, r, hl, _ => by rw [List.length_eq_zero_iff.1 hl, orderN]
  | n + 1, left, r, hl, hr => by
    obtain ⟨A, x, B, rfl, hA, hx, he⟩ := split_at (l := left) (i := r / fact n) (by rw [hl]; exact div_lt hr)
    rw [orderN, hx, he]
    have h := order_perm n (A ++ B) (r % fact n) (by simp at hl ⊢; omega) (Nat.mod_lt _ (fact_pos n))
    exact (h.cons x).trans List.perm_middle.symm
theorem order_rank : ∀ n left r, Up left → left.length = n → r < fact n → rankOf (orderN n left r) = r
  | 0, left, r, _, _, hr => by rw [fact] at hr; rw [orderN, rankOf]; omega
  | n + 1, left, r, hu, hl, hr => by
    obtain ⟨A, x, B, rfl, hA, hx, he⟩ := split_at (l := left) (i := r / fact n) (by rw [hl]; exact div_lt hr)
    have hAB : (A ++ B).length = n := by simp at hl ⊢; omega
    have hm := Nat.mod_lt r (fact_pos n)
    rw [orderN, hx, he, rankOf, orderN_len, less_perm (order_perm n (A ++ B) _ hAB hm), less_mid hu, hA, order_rank n (A ++ B) _ (up_mid hu).1 hAB hm, Nat.mul_comm]
    exact Nat.div_add_mod r (fact n)
theorem rank_order : ∀ (n : Nat) (left l : List Int), Up left → left.length = n → l.Perm left → rankOf l < fact n ∧ orderN n left (rankOf l) = l
  | 0, left, l, _, hl, hp => by
    obtain rfl := List.length_eq_zero_iff.1 hl
    obtain rfl := hp.eq_nil
    exact ⟨by decide, rfl⟩
  | n + 1, left, l, hu, hl, hp => by
    cases l with
    | nil => have := hp.length_eq; simp at this; omega
    | cons x r =>
      obtain ⟨A, B, rfl⟩ := List.append_of_mem (hp.subset (by simp : x ∈ x :: r))
      have hp2 : r.Perm (A ++ B) := (hp.trans List.perm_middle).cons_inv
      have hAB : (A ++ B).length = n := by simp at hl ⊢; omega
      obtain ⟨h1, h2⟩ := rank_order n (A ++ B) r (up_mid hu).1 hAB hp2
      have hrl : r.length = n := hp2.length_eq.trans hAB
      have e : rankOf (x :: r) = A.length * fact n + rankOf r := by rw [rankOf, hrl, less_perm hp2, less_mid hu]
      have hq : rankOf (x :: r) / fact n = A.length := by
        rw [e, Nat.mul_comm, Nat.mul_add_div (fact_pos n), Nat.div_eq_of_lt h1, Nat.add_zero]
      have hm : rankOf (x :: r) % fact n = rankOf r := by
        rw [e, Nat.mul_comm, Nat.mul_add_mod, Nat.mod_eq_of_lt h1]
      have hA : A.length < n + 1 := by simp at hl; omega
      refine ⟨?_, ?_⟩
      · rw [e, fact]
        have : A.length * fact n + fact n ≤ (n + 1) * fact n := by rw [← Nat.succ_mul]; exact Nat.mul_le_mul_right _ hA
        omega
      · rw [orderN, hq, hm, List.getElem?_append_right (Nat.le_refl _), Nat.sub_self]
        have he : (A ++ x :: B).eraseIdx A.length = A ++ B := by
          rw [List.eraseIdx_append_of_length_le (Nat.le_refl _), Nat.sub_self]; rfl
        rw [he, h2]
        rfl

/-- the numbers 0 to n - 1 -/
def rowOf (n : Nat) : List Int := (List.range n).map (fun i : Nat => (i : Int))
theorem rowOf_len (n : Nat) : (rowOf n).length = n := by simp [rowOf]
theorem rowOf_get {n i : Nat} (h : i < n) : (rowOf n)[i]? = some (i : Int) := by simp [rowOf, h]
theorem rowOf_succ (n : Nat) : rowOf (n + 1) = rowOf n ++ [(n : Int)] := by simp [rowOf, List.range_succ]
theorem rowOf_mem {n : Nat} {x : Int} : x ∈ rowOf n ↔ 0 ≤ x ∧ x < n := by
  simp only [rowOf, List.mem_map, List.mem_range]
  constructor
  · rintro ⟨i, h, rfl⟩; omega
  · rintro ⟨h1, h2⟩; exact ⟨x.toNat, by omega, by omega⟩
theorem rowOf_up : ∀ n, Up (rowOf n)
  | 0 => by unfold Up rowOf; simp
  | n + 1 => by
    unfold Up
    rw [rowOf_succ, List.pairwise_append]
    refine ⟨rowOf_up n, by simp, fun a ha b hb => ?_⟩
    simp at hb
    subst hb
    exact (rowOf_mem.1 ha).2
theorem perm_of : ∀ (l m : List Int), l.Nodup → m.Nodup → (∀ x ∈ l, x ∈ m) → l.length = m.length → l.Perm m
  | [], m, _, _, _, h => by rw [List.length_eq_zero_iff.1 h.symm]
  | x :: r, m, hl, hm, hs, h => by
    obtain ⟨A, B, rfl⟩ := List.append_of_mem (hs x (by simp))
    have hx : x ∉ r := (List.nodup_cons.1 hl).1
    have hn : (x :: (A ++ B)).Nodup := List.perm_middle.nodup_iff.1 hm
    refine ((perm_of r (A ++ B) (List.nodup_cons.1 hl).2 (List.nodup_cons.1 hn).2 (fun y hy => ?_) ?_).cons x).trans List.perm_middle.symm
    · have := hs y (by simp [hy])
      have hne : y ≠ x := fun e => hx (e ▸ hy)
      simp at this ⊢
      rcases this with h | h | h
      · exact Or.inl h
      · exact absurd h hne
      · exact Or.inr h
    · simp at h ⊢; omega
theorem up_nodup {l : List Int} (h : Up l) : l.Nodup := h.imp (fun h => by omega)
/-- what Check lets by -/
def Ok (l : List Int) : Prop := l.Nodup ∧ ∀ x ∈ l, 0 ≤ x ∧ x < l.length
theorem ok_perm {l : List Int} (h : Ok l) : l.Perm (rowOf l.length) :=
  perm_of _ _ h.1 (up_nodup (rowOf_up _)) (fun x hx => rowOf_mem.2 (h.2 x hx)) (rowOf_len _).symm
theorem perm_ok {l : List Int} {n : Nat} (h : l.Perm (rowOf n)) : l.length = n ∧ Ok l := by
  have hl : l.length = n := h.length_eq.trans (rowOf_len n)
  exact ⟨hl, h.symm.nodup_iff.1 (up_nodup (rowOf_up n)), fun x hx => by rw [hl]; exact rowOf_mem.1 (h.subset hx)⟩
def orderOf (n r : Nat) : List Int := orderN n (rowOf n) r
theorem orderOf_ok {n r : Nat} (h : r < fact n) : (orderOf n r).length = n ∧ Ok (orderOf n r) := perm_ok (order_perm n _ r (rowOf_len n) h)
theorem rank_orderOf {n r : Nat} (h : r < fact n) : rankOf (orderOf n r) = r := order_rank n _ r (rowOf_up n) (rowOf_len n) h
theorem orderOf_rank {l : List Int} (h : Ok l) : rankOf l < fact l.length ∧ orderOf l.length (rankOf l) = l := rank_order _ _ l (rowOf_up _) (rowOf_len _) (ok_perm h)
theorem less_row {n : Nat} {x : Int} (h0 : 0 ≤ x) (h1 : x < n) : (less x (rowOf n) : Int) = x := by
  obtain ⟨k, rfl⟩ : ∃ k : Nat, x = k := ⟨x.toNat, by omega⟩
  have hk : k < n := by omega
  clear h0 h1
  induction n with
  | zero => omega
  | succ n ih =>
    rw [rowOf_succ, less_app, less_cons]
    by_cases e : k = n
    · subst e
      rw [less_all (fun y hy => (rowOf_mem.1 hy).2), rowOf_len, if_neg (by omega)]
      simp [less]
    · rw [if_neg (by omega)]
      have := ih (by omega)
      have e0 : less (k : Int) [] = 0 := rfl
      omega
/-- how many numbers ahead and behind are less -/
theorem less_ahead {A B : List Int} {x : Int} (h : Ok (A ++ x :: B)) : x - (less x A : Int) = less x B := by
  have h1 := less_perm (x := x) (ok_perm h)
  have h2 := h.2 x (by simp)
  have h3 := less_row h2.1 h2.2
  rw [less_app, less_cons, if_neg (by omega)] at h1
  omega

/-! ### the order of orders -/
def cmpL : List Int → List Int → Int
  | [], [] => 0
  | [], _ :: _ => -1
  | _ :: _, [] => 1
  | x :: a, y :: b => if x < y then -1 else if y < x then 1 else cmpL a b
theorem up_get {l : List Int} (h : Up l) {i j : Nat} (hij : i < j) (hj : j < l.length) : (l[i]?).getD 0 < (l[j]?).getD 0 := by
  rw [List.getElem?_eq_getElem hj, List.getElem?_eq_getElem (Nat.lt_trans hij hj)]
  exact List.pairwise_iff_getElem.1 h i j (Nat.lt_trans hij hj) hj hij
theorem cmp_order : ∀ n left i k, Up left → left.length = n → i < fact n → k < fact n → (cmpL (orderN n left i) (orderN n left k) < 0 ↔ i < k)
  | 0, left, i, k, _, _, hi, hk => by rw [fact] at hi hk; rw [orderN, orderN, cmpL]; omega
  | n + 1, left, i, k, hu, hl, hi, hk => by
    have a1 := div_lt hi
    have b1 := div_lt hk
    have hp := fact_pos n
    rw [orderN, orderN, cmpL]
    rcases Nat.lt_trichotomy (i / fact n) (k / fact n) with h | h | h
    · rw [if_pos (up_get hu h (by omega))]
      have hik : i < k := by
        rcases Nat.lt_or_ge i k with h2 | h2
        · exact h2
        · exact absurd (Nat.div_le_div_right (c := fact n) h2) (by omega)
      simp [hik]
    · obtain ⟨A, x, B, rfl, hA, hx, he⟩ := split_at (l := left) (i := k / fact n) (by omega)
      rw [h, if_neg (by omega), if_neg (by omega), he, cmp_order n (A ++ B) _ _ (up_mid hu).1 (by simp at hl ⊢; omega) (Nat.mod_lt _ hp) (Nat.mod_lt _ hp)]
      have e1 := Nat.div_add_mod i (fact n)
      have e2 := Nat.div_add_mod k (fact n)
      rw [h] at e1
      omega
    · rw [if_neg (by have := up_get hu h (by omega); omega), if_pos (up_get hu h (by omega))]
      have hik : k ≤ i := by
        rcases Nat.lt_or_ge i k with h2 | h2
        · exact absurd (Nat.div_le_div_right (c := fact n) (Nat.le_of_lt h2)) (by omega)
        · exact h2
      constructor
      · intro h; omega
      · intro h; omega
theorem cmp_orderOf {n i k : Nat} (hi : i < fact n) (hk : k < fact n) : cmpL (orderOf n i) (orderOf n k) < 0 ↔ i < k := cmp_order n _ i k (rowOf_up n) (rowOf_len n) hi hk
theorem order_first {n i : Nat} (h : i < fact (n + 1)) : (orderOf (n + 1) i)[0]? = some ((i / fact n : Nat) : Int) := by
  rw [orderOf, orderN, rowOf_get (div_lt h)]
  rfl

/-! ### turned round -/
theorem less_turn {x c : Int} {r : List Int} (h : x ∉ r) : less x r + less (c - x) (r.map (fun k => c - k)) = r.length := by
  induction r with
  | nil => rfl
  | cons y r ih =>
    have hxy : x ≠ y := fun e => h (by simp [e])
    have := ih (fun hm => h (by simp [hm]))
    rw [List.map_cons, less_cons, less_cons, List.length_cons]
    split <;> split <;> omega
theorem rank_turn : ∀ (c : Int) (l : List Int), l.Nodup → rankOf l + rankOf (l.map (fun k => c - k)) + 1 = fact l.length
  | _, [], _ => rfl
  | c, x :: r, h => by
    have h1 := rank_turn c r (List.nodup_cons.1 h).2
    have h2 := less_turn (c := c) (List.nodup_cons.1 h).1
    have h3 : (less x r + less (c - x) (r.map (fun k => c - k))) * fact r.length = r.length * fact r.length := by rw [h2]
    rw [Nat.add_mul] at h3
    rw [List.map_cons, rankOf, rankOf, List.length_map, List.length_cons, fact, Nat.succ_mul]
    omega
theorem turn_ok {l : List Int} (h : Ok l) : Ok (l.map (fun k => (l.length : Int) - 1 - k)) := by
  refine ⟨?_, ?_⟩
  · have := h.1
    unfold List.Nodup at *
    rw [List.pairwise_map]
    exact this.imp (fun h => by omega)
  · intro x hx
    obtain ⟨y, hy, rfl⟩ := List.mem_map.1 hx
    have := h.2 y hy
    rw [List.length_map]
    omega

/-! ### the document's order: the first number, and the others moved up -/
def bump (k x : Int) : Int := if k ≤ x then x + 1 else x
theorem erase_row {n k : Nat} (h : k ≤ n) : (rowOf (n + 1)).eraseIdx k = (rowOf n).map (bump k) := by
  apply List.ext_getElem?
  intro i
  rw [List.getElem?_eraseIdx, List.getElem?_map]
  by_cases hi : i < k
  · rw [if_pos hi, rowOf_get (by omega), rowOf_get (by omega)]
    simp [bump]; omega
  · rw [if_neg hi]
    by_cases hn : i < n
    · rw [rowOf_get (by omega), rowOf_get hn]
      simp [bump]; omega
    · rw [List.getElem?_eq_none (by rw [rowOf_len]; omega), List.getElem?_eq_none (by rw [rowOf_len]; omega)]; rfl
theorem erase_map (f : Int → Int) : ∀ (l : List Int) (i : Nat), (l.map f).eraseIdx i = (l.eraseIdx i).map f
  | [], _ => rfl
  | x :: l, 0 => rfl
  | x :: l, i + 1 => by rw [List.map_cons, List.eraseIdx_cons_succ, List.eraseIdx_cons_succ, List.map_cons, erase_map f l i]
theorem order_map (f : Int → Int) : ∀ n left r, left.length = n → r < fact n → orderN n (left.map f) r = (orderN n left r).map f
  | 0, _, _, _, _ => rfl
  | n + 1, left, r, hl, hr => by
    have h := div_lt hr
    rw [orderN, orderN, List.map_cons, List.getElem?_map, List.getElem?_eq_getElem (by omega), erase_map, order_map f n _ _ (by rw [List.length_eraseIdx, if_pos (by omega)]; omega) (Nat.mod_lt _ (fact_pos n))]
    rfl
theorem order_nth {n r : Nat} (h : r < fact (n + 1)) : orderOf (n + 1) r = ((r / fact n : Nat) : Int) :: (orderOf n (r % fact n)).map (bump ((r / fact n : Nat) : Int)) := by
  rw [orderOf, orderN, rowOf_get (div_lt h), erase_row (by have := div_lt h; omega), order_map _ _ _ _ (rowOf_len n) (Nat.mod_lt _ (fact_pos n))]
  rfl

/-! ### dealing -/
def swapAt (l : List Int) (i j : Nat) : List Int := (l.set i ((l[j]?).getD 0)).set j ((l[i]?).getD 0)
theorem swap_len (l : List Int) (i j : Nat) : (swapAt l i j).length = l.length := by simp [swapAt]
def dealTo (l : List Int) (d : List Int) : Nat → List Int
  | 0 => l
  | i + 1 => swapAt (dealTo l d i) i ((d[i]?).getD 0).toNat
theorem deal_len (l d : List Int) : ∀ i, (dealTo l d i).length = l.length
  | 0 => rfl
  | i + 1 => by rw [dealTo, swap_len, deal_len l d i]
def DrawsOk (d : List Int) : Prop := ∀ (i : Nat) (x : Int), d[i]? = some x → 0 ≤ x ∧ x ≤ i
theorem swap_perm {l : List Int} {i j : Nat} (hi : i < l.length) (hj : j < l.length) : (swapAt l i j).Perm l := by
  unfold swapAt
  rw [List.getElem?_eq_getElem hi, List.getElem?_eq_getElem hj]
  exact List.set_set_perm hi hj
theorem deal_perm {l d : List Int} (h : DrawsOk d) (hl : d.length = l.length) : ∀ i, i ≤ l.length → (dealTo l d i).Perm l
  | 0, _ => List.Perm.refl _
  | i + 1, hi => by
    rw [dealTo]
    have hdi : d[i]? = some (d[i]'(by omega)) := List.getElem?_eq_getElem _
    have h2 := h i _ hdi
    refine (swap_perm (by rw [deal_len]; omega) (by rw [deal_len, hdi, Option.getD_some]; omega)).trans (deal_perm h hl i (by omega))
theorem swap_self {l : List Int} {i : Nat} (h : i < l.length) : swapAt l i i = l := by
  unfold swapAt
  rw [List.set_set, List.getElem?_eq_getElem h]
  exact List.set_getElem_self h
theorem deal_own {l d : List Int} (h : ∀ i : Nat, i < l.length → d[i]? = some (i : Int)) : ∀ i, i ≤ l.length → dealTo l d i = l
  | 0, _ => rfl
  | i + 1, hi => by
    rw [dealTo, deal_own h i (by omega), h i (by omega)]
    exact swap_self (by omega)
theorem deal_app {l d : List Int} (x : Int) (h : DrawsOk d) (hl : l.length ≤ d.length) : ∀ i, i ≤ l.length → dealTo (l ++ [x]) d i = dealTo l d i ++ [x]
  | 0, _ => rfl
  | i + 1, hi => by
    rw [dealTo, dealTo, deal_app x h hl i (by omega)]
    have hdi : d[i]? = some (d[i]'(by omega)) := List.getElem?_eq_getElem _
    have h2 := h i _ hdi
    rw [hdi, Option.getD_some]
    have hn := deal_len l d i
    unfold swapAt
    rw [List.getElem?_append_left (by omega), List.getElem?_append_left (by omega), List.set_append_left _ _ (by omega), List.set_append_left _ _ (by rw [List.length_set]; omega)]
theorem deal_same {l d e : List Int} : ∀ i, (∀ k, k < i → d[k]? = e[k]?) → dealTo l d i = dealTo l e i
  | 0, _ => rfl
  | i + 1, h => by rw [dealTo, dealTo, deal_same i (fun k hk => h k (by omega)), h i (by omega)]
theorem swap_else {l : List Int} {i j k : Nat} (h1 : k ≠ i) (h2 : k ≠ j) : (swapAt l i j)[k]? = l[k]? := by
  unfold swapAt
  rw [List.getElem?_set_ne (by omega), List.getElem?_set_ne (by omega)]
/-- at how many of the first n places two lists differ -/
def unlike (x y : List Int) : Nat → Nat
  | 0 => 0
  | n + 1 => unlike x y n + if x[n]? = y[n]? then 0 else 1
theorem unlike_le {x y : List Int} {a b c : Nat} (h : ∀ k, k ≠ a → k ≠ b → k ≠ c → x[k]? = y[k]?) : ∀ n, unlike x y n ≤ (if a < n then 1 else 0) + (if b < n then 1 else 0) + (if c < n then 1 else 0)
  | 0 => by rw [unlike]; omega
  | n + 1 => by
    rw [unlike]
    have ih := unlike_le h n
    by_cases e : x[n]? = y[n]?
    · rw [if_pos e]
      split at ih <;> split at ih <;> split at ih <;> split <;> split <;> split <;> omega
    · rw [if_neg e]
      have : n = a ∨ n = b ∨ n = c := by
        by_cases h1 : n = a
        · exact Or.inl h1
        · by_cases h2 : n = b
          · exact Or.inr (Or.inl h2)
          · by_cases h3 : n = c
            · exact Or.inr (Or.inr h3)
            · exact absurd (h n h1 h2 h3) e
      split at ih <;> split at ih <;> split at ih <;> split <;> split <;> split <;> omega

end Digit
end Go.Proofs.YtffgoekdjcempaaGreat
