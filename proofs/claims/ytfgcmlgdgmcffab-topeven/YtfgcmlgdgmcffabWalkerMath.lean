/- Walker's method: the columns that are still open, the weight that each has left, what has been dealt. Mathematics alone. -/
import Derived.Test.YtfgcmlgdgmcffabBase
namespace Go.Proofs.Ytfgcmlgdgmcffab
namespace Walker

def g (l : List Int) (i : Nat) : Int := l.getD i 0
theorem g_some {l : List Int} {i : Nat} {y : Int} (h : l[i]? = some y) : g l i = y := by unfold g; rw [List.getD_eq_getElem?_getD, h]; rfl
theorem get_g {l : List Int} {i : Nat} (h : i < l.length) : l[i]? = some (g l i) := by
  rw [List.getElem?_eq_getElem h]; congr 1; unfold g; rw [List.getD_eq_getElem?_getD, List.getElem?_eq_getElem h]; rfl
theorem g_set {l : List Int} {i j : Nat} {x : Int} (h : i < l.length) : g (l.set i x) j = if i = j then x else g l j := by
  by_cases e : i = j
  · subst e
    rw [if_pos rfl]; exact g_some (List.getElem?_set_self h)
  · rw [if_neg e]; unfold g; rw [List.getD_eq_getElem?_getD, List.getD_eq_getElem?_getD, List.getElem?_set_ne e]
/-- own, rest, left; the two stacks -/
structure St where
  own : List Int
  rest : List Int
  left : List Int
  low : List Nat
  high : List Nat
def St.act (s : St) : List Nat := s.low ++ s.high
def next (A : Int) (s : St) (c q : Nat) (lw hg : List Nat) : St :=
  { own := s.own.set c (g s.left c), rest := s.rest.set c (q : Int), left := s.left.set q (g s.left q - (A - g s.left c)),
    low := if g s.left q - (A - g s.left c) < A then lw ++ [q] else lw, high := if g s.left q - (A - g s.left c) < A then hg else hg ++ [q] }
def fillN (A : Int) : Nat → St → St
  | 0, s => s
  | f + 1, s => match s.low.getLast?, s.high.getLast? with
    | some c, some q => fillN A f (next A s c q s.low.dropLast s.high.dropLast)
    | _, _ => s
theorem fillN_done {A : Int} {s : St} (h : s.low = []) : ∀ f, fillN A f s = s
  | 0 => rfl
  | f + 1 => by rw [fillN, h]; rfl
theorem fillN_step {A : Int} {s : St} {c q : Nat} {lw hg : List Nat} (h1 : s.low = lw ++ [c]) (h2 : s.high = hg ++ [q]) (f : Nat) : fillN A (f + 1) s = fillN A f (next A s c q lw hg) := by
  rw [fillN, h1, h2]
  simp
def sumTo (f : Nat → Int) : Nat → Int
  | 0 => 0
  | k + 1 => sumTo f k + f k
theorem sumTo_same {f f' : Nat → Int} : ∀ k, (∀ i, i < k → f' i = f i) → sumTo f' k = sumTo f k
  | 0, _ => rfl
  | k + 1, h => by rw [sumTo, sumTo, sumTo_same k (fun i hi => h i (by omega)), h k (by omega)]
theorem sumTo_one {f f' : Nat → Int} {c : Nat} : ∀ k, c < k → (∀ i, i < k → i ≠ c → f' i = f i) → sumTo f' k = sumTo f k + (f' c - f c)
  | 0, h, _ => by omega
  | k + 1, hc, h => by
    rw [sumTo, sumTo]
    by_cases e : c = k
    · subst e
      rw [sumTo_same c (fun i hi => h i (by omega) (by omega))]; omega
    · rw [sumTo_one k (by omega) (fun i hi hne => h i (by omega) hne), h k (by omega) (by omega)]; omega
theorem sum_one {f f' : Nat → Int} {q : Nat} : ∀ {L : List Nat}, L.Nodup → q ∈ L → (∀ i, i ≠ q → f' i = f i) → (L.map f').sum = (L.map f).sum + (f' q - f q)
  | [], _, h, _ => by simp at h
  | a :: L, hn, hq, h => by
    rw [List.nodup_cons] at hn
    rw [List.map_cons, List.map_cons, List.sum_cons, List.sum_cons]
    by_cases e : a = q
    · subst e
      rw [show L.map f' = L.map f from List.map_congr_left (fun i hi => h i (fun e => hn.1 (e ▸ hi)))]; omega
    · rw [sum_one hn.2 ((List.mem_cons.1 hq).resolve_left (fun h => e h.symm)) h, h a e]; omega
theorem perm_sum {l l' : List Int} (h : l.Perm l') : l.sum = l'.sum := by
  induction h with
  | nil => rfl
  | cons x _ ih => rw [List.sum_cons, List.sum_cons, ih]
  | swap x y l => simp only [List.sum_cons]; omega
  | trans _ _ h1 h2 => exact h1.trans h2
theorem sum_lt {A : Int} : ∀ {L : List Int}, L ≠ [] → (∀ x ∈ L, x < A) → L.sum < A * L.length
  | [], h, _ => absurd rfl h
  | [x], _, h => by have := h x (by simp); simp; omega
  | x :: y :: L, _, h => by
    have := sum_lt (A := A) (L := y :: L) (by simp) (fun z hz => h z (List.mem_cons_of_mem _ hz))
    have hx := h x (by simp)
    rw [List.sum_cons, List.length_cons]
    have e : A * ((y :: L).length + 1 : Nat) = A * ((y :: L).length : Nat) + A := by rw [Int.natCast_add, Int.mul_add]; simp
    rw [e]; omega
theorem sum_ge {A : Int} : ∀ {L : List Int}, (∀ x ∈ L, A ≤ x) → A * L.length ≤ L.sum
  | [], _ => by simp
  | x :: L, h => by
    have := sum_ge (A := A) (L := L) (fun z hz => h z (List.mem_cons_of_mem _ hz))
    have hx := h x (by simp)
    have e : A * ((x :: L).length : Nat) = A * (L.length : Nat) + A := by rw [List.length_cons, Int.natCast_add, Int.mul_add]; simp
    rw [e, List.sum_cons]; omega
theorem all_eq {A : Int} : ∀ {L : List Int}, (∀ x ∈ L, A ≤ x) → L.sum = A * L.length → ∀ x ∈ L, x = A
  | [], _, _, x, hx => by simp at hx
  | y :: L, h, hs, x, hx => by
    have h1 := sum_ge (A := A) (L := L) (fun z hz => h z (List.mem_cons_of_mem _ hz))
    have hy := h y (by simp)
    have e : A * ((y :: L).length : Nat) = A * (L.length : Nat) + A := by rw [List.length_cons, Int.natCast_add, Int.mul_add]; simp
    rw [e, List.sum_cons] at hs
    rcases List.mem_cons.1 hx with rfl | hx
    · omega
    · exact all_eq (fun z hz => h z (List.mem_cons_of_mem _ hz)) (by omega) x hx
/-- what column i gives to index j -/
def cont (A : Int) (s : St) (j i : Nat) : Int := (if i = j then g s.own i else 0) + (if g s.rest i = (j : Int) then A - g s.own i else 0)
def dealt (A : Int) (s : St) (n j : Nat) : Int := sumTo (fun i => if i ∈ s.act then 0 else cont A s j i) n
structure Inv (l : List Int) (A : Int) (s : St) : Prop where
  lo : s.own.length = l.length
  lr : s.rest.length = l.length
  ll : s.left.length = l.length
  nd : s.act.Nodup
  lt : ∀ i ∈ s.act, i < l.length
  low : ∀ c ∈ s.low, 0 ≤ g s.left c ∧ g s.left c < A
  high : ∀ q ∈ s.high, A ≤ g s.left q ∧ g s.left q ≤ 40000000000000
  sum : (s.act.map (g s.left)).sum = A * s.act.length
  open_ : ∀ i ∈ s.act, g s.own i = A ∧ g s.rest i = (i : Int)
  done : ∀ i, i < l.length → i ∉ s.act → (0 ≤ g s.own i ∧ g s.own i < A) ∧ (0 ≤ g s.rest i ∧ g s.rest i < (l.length : Int)) ∧ g s.rest i ≠ (i : Int)
  keep : ∀ i, i < l.length → g l i * l.length < A → i ∉ s.high ∧ (i ∈ s.low → g s.left i = g l i * l.length) ∧ (i ∉ s.low → g s.own i = g l i * l.length)
  share : ∀ j, j < l.length → dealt A s l.length j + (if j ∈ s.act then g s.left j else 0) = g l j * l.length
theorem Inv.giver {l : List Int} {A : Int} {s : St} (h : Inv l A s) (hl : s.low ≠ []) : s.high ≠ [] := by
  intro hh
  have e : s.act = s.low := by unfold St.act; rw [hh, List.append_nil]
  have := h.sum
  rw [e] at this
  have h2 := sum_lt (A := A) (L := s.low.map (g s.left)) (by simpa using hl) (fun x hx => by obtain ⟨c, hc, rfl⟩ := List.mem_map.1 hx; exact (h.low c hc).2)
  rw [List.length_map] at h2
  omega
theorem next_perm {A : Int} {s : St} {c q : Nat} {lw hg : List Nat} (h1 : s.low = lw ++ [c]) (h2 : s.high = hg ++ [q]) : s.act.Perm (c :: (next A s c q lw hg).act) := by
  unfold St.act next
  rw [h1, h2]
  refine List.perm_iff_count.2 fun a => ?_
  by_cases e : g s.left q - (A - g s.left c) < A
  · simp only [if_pos e, List.count_append, List.count_cons, List.count_nil]; omega
  · simp only [if_neg e, List.count_append, List.count_cons, List.count_nil]; omega
theorem Inv.next {l : List Int} {A : Int} {s : St} {c q : Nat} {lw hg : List Nat} (h : Inv l A s) (h1 : s.low = lw ++ [c]) (h2 : s.high = hg ++ [q]) : Inv l A (Walker.next A s c q lw hg) := by
  have P := next_perm (A := A) h1 h2
  have hN := P.nodup_iff.1 h.nd
  rw [List.nodup_cons] at hN
  have hM : ∀ i, i ∈ (Walker.next A s c q lw hg).act ↔ i ∈ s.act ∧ i ≠ c := by
    intro i
    constructor
    · intro hi
      exact ⟨P.mem_iff.2 (List.mem_cons_of_mem _ hi), fun e => hN.1 (e ▸ hi)⟩
    · rintro ⟨hi, hne⟩
      exact (List.mem_cons.1 (P.mem_iff.1 hi)).resolve_left hne
  have hcl : c ∈ s.low := by rw [h1]; simp
  have hqh : q ∈ s.high := by rw [h2]; simp
  have hca : c ∈ s.act := List.mem_append_left _ hcl
  have hqa : q ∈ s.act := List.mem_append_right _ hqh
  have hc := h.lt c hca
  have hq := h.lt q hqa
  have bc := h.low c hcl
  have bq := h.high q hqh
  have hcq : c ≠ q := fun e => by
    have := h.nd
    unfold St.act at this
    rw [List.nodup_append] at this
    exact this.2.2 c hcl c (e ▸ hqh) rfl
  have hch : c ∉ s.high := fun hc' => by
    have := h.nd
    unfold St.act at this
    rw [List.nodup_append] at this
    exact this.2.2 c hcl c hc' rfl
  have hql : q ∉ s.low := fun hc' => by
    have := h.nd
    unfold St.act at this
    rw [List.nodup_append] at this
    exact this.2.2 q hc' q hqh rfl
  have hqn : q ∈ (Walker.next A s c q lw hg).act := (hM q).2 ⟨hqa, fun e => hcq e.symm⟩
  have hclw : c ∉ lw := by
    have := h.nd
    unfold St.act at this
    rw [List.nodup_append] at this
    have := this.1
    rw [h1, List.nodup_append] at this
    exact fun hc' => this.2.2 c hc' c (by simp) rfl
  have hqhg : q ∉ hg := by
    have := h.nd
    unfold St.act at this
    rw [List.nodup_append] at this
    have := this.2.1
    rw [h2, List.nodup_append] at this
    exact fun hc' => this.2.2 q hc' q (by simp) rfl
  have eo : ∀ i, g (Walker.next A s c q lw hg).own i = if c = i then g s.left c else g s.own i := fun i => g_set (by rw [h.lo]; exact hc)
  have er : ∀ i, g (Walker.next A s c q lw hg).rest i = if c = i then (q : Int) else g s.rest i := fun i => g_set (by rw [h.lr]; exact hc)
  have el : ∀ i, g (Walker.next A s c q lw hg).left i = if q = i then g s.left q - (A - g s.left c) else g s.left i := fun i => g_set (by rw [h.ll]; exact hq)
  have hlow : ∀ i, i ∈ (Walker.next A s c q lw hg).low → (i = q ∧ g s.left q - (A - g s.left c) < A) ∨ i ∈ lw := by
    intro i hi
    unfold Walker.next at hi
    by_cases e : g s.left q - (A - g s.left c) < A
    · rw [if_pos e] at hi
      rcases List.mem_append.1 hi with hi | hi
      · exact Or.inr hi
      · exact Or.inl ⟨List.mem_singleton.1 hi, e⟩
    · rw [if_neg e] at hi
      exact Or.inr hi
  have hhigh : ∀ i, i ∈ (Walker.next A s c q lw hg).high → (i = q ∧ ¬ g s.left q - (A - g s.left c) < A) ∨ i ∈ hg := by
    intro i hi0
    have hi : i ∈ (if g s.left q - (A - g s.left c) < A then hg else hg ++ [q]) := hi0
    by_cases e : g s.left q - (A - g s.left c) < A
    · rw [if_pos e] at hi
      exact Or.inr hi
    · rw [if_neg e] at hi
      rcases List.mem_append.1 hi with hi | hi
      · exact Or.inr hi
      · exact Or.inl ⟨List.mem_singleton.1 hi, e⟩
  have hlowr : ∀ i, i ∈ lw → i ∈ (Walker.next A s c q lw hg).low := by
    intro i hi
    unfold Walker.next
    by_cases e : g s.left q - (A - g s.left c) < A
    · rw [if_pos e]; exact List.mem_append_left _ hi
    · rw [if_neg e]; exact hi
  refine ⟨?_, ?_, ?_, hN.2, ?_, ?_, ?_, ?_, ?_, ?_, ?_, ?_⟩
  · show (s.own.set _ _).length = _; rw [List.length_set]; exact h.lo
  · show (s.rest.set _ _).length = _; rw [List.length_set]; exact h.lr
  · show (s.left.set _ _).length = _; rw [List.length_set]; exact h.ll
  · intro i hi; exact h.lt i ((hM i).1 hi).1
  · intro i hi
    rw [el i]
    rcases hlow i hi with ⟨rfl, e⟩ | hi
    · rw [if_pos rfl]; omega
    · have hil : i ∈ s.low := by rw [h1]; exact List.mem_append_left _ hi
      rw [if_neg (show ¬ q = i from fun e => hql (e ▸ hil))]
      exact h.low i hil
  · intro i hi
    rw [el i]
    rcases hhigh i hi with ⟨rfl, e⟩ | hi
    · rw [if_pos rfl]; omega
    · have hih : i ∈ s.high := by rw [h2]; exact List.mem_append_left _ hi
      rw [if_neg (show ¬ q = i from fun e => hqhg (e ▸ hi))]
      exact h.high i hih
  · have hs := h.sum
    rw [perm_sum (P.map (g s.left)), P.length_eq, List.map_cons, List.sum_cons, List.length_cons, Int.natCast_add, Int.mul_add] at hs
    have h3 := sum_one (f := g s.left) (f' := g (Walker.next A s c q lw hg).left) hN.2 hqn (fun i hi => by rw [el i, if_neg (fun e => hi e.symm)])
    rw [h3, el q, if_pos rfl]
    simp at hs
    omega
  · intro i hi
    have := (hM i).1 hi
    have hci : ¬ c = i := fun e => this.2 e.symm
    rw [eo i, er i, if_neg hci, if_neg hci]
    exact h.open_ i this.1
  · intro i hi hni
    rw [eo i, er i]
    by_cases e : c = i
    · subst e
      rw [if_pos rfl, if_pos rfl]
      omega
    · rw [if_neg e, if_neg e]
      exact h.done i hi (fun hx => hni ((hM i).2 ⟨hx, fun e' => e e'.symm⟩))
  · intro i hi hk
    obtain ⟨k1, k2, k3⟩ := h.keep i hi hk
    have hiq : q ≠ i := fun e => k1 (e ▸ hqh)
    refine ⟨?_, ?_, ?_⟩
    · intro hh
      rcases hhigh i hh with ⟨rfl, _⟩ | hh
      · exact hiq rfl
      · exact k1 (by rw [h2]; exact List.mem_append_left _ hh)
    · intro hl
      rcases hlow i hl with ⟨rfl, _⟩ | hl
      · exact absurd rfl hiq
      · rw [el i, if_neg hiq]; exact k2 (by rw [h1]; exact List.mem_append_left _ hl)
    · intro hl
      rw [eo i]
      by_cases e : c = i
      · subst e; rw [if_pos rfl]; exact k2 hcl
      · rw [if_neg e]
        refine k3 (fun hx => hl ?_)
        rw [h1] at hx
        rcases List.mem_append.1 hx with hx | hx
        · exact hlowr i hx
        · exact absurd (List.mem_singleton.1 hx).symm e
  · intro j hj
    have hs := h.share j hj
    have hd : dealt A (Walker.next A s c q lw hg) l.length j = dealt A s l.length j + ((if c = j then g s.left c else 0) + (if (q : Int) = (j : Int) then A - g s.left c else 0)) := by
      unfold dealt
      rw [sumTo_one (f := fun i => if i ∈ s.act then 0 else cont A s j i) (c := c) l.length hc]
      · rw [if_neg (fun hx => ((hM c).1 hx).2 rfl), if_pos hca]
        unfold cont
        rw [eo c, er c, if_pos rfl, if_pos rfl]
        omega
      · intro i hi hne
        by_cases e : i ∈ s.act
        · rw [if_pos e, if_pos ((hM i).2 ⟨e, hne⟩)]
        · rw [if_neg e, if_neg (fun hx => e ((hM i).1 hx).1)]
          have hci : ¬ c = i := fun e => hne e.symm
          unfold cont
          rw [eo i, er i, if_neg hci, if_neg hci]
    rw [hd, el j]
    by_cases e1 : c = j
    · subst e1
      rw [if_pos hca] at hs
      rw [if_pos rfl, if_neg (fun hx => ((hM c).1 hx).2 rfl), if_neg (by omega)]
      omega
    · by_cases e2 : q = j
      · subst e2
        rw [if_pos hqa] at hs
        rw [if_neg e1, if_pos rfl, if_pos hqn, if_pos rfl]
        omega
      · rw [if_neg e1, if_neg (by omega), if_neg e2]
        by_cases e3 : j ∈ s.act
        · rw [if_pos e3] at hs
          rw [if_pos ((hM j).2 ⟨e3, fun e => e1 e.symm⟩)]
          omega
        · rw [if_neg e3] at hs
          rw [if_neg (fun hx => e3 ((hM j).1 hx).1)]
          omega
/-- at the beginning: all columns are open -/
def start (l : List Int) : St :=
  { own := List.replicate l.length l.sum, rest := (List.range l.length).map (fun i : Nat => (i : Int)), left := l.map (fun x => x * (l.length : Int)),
    low := (List.range l.length).filter (fun i => decide (g l i * (l.length : Int) < l.sum)), high := (List.range l.length).filter (fun i => !decide (g l i * (l.length : Int) < l.sum)) }
theorem g_left {l : List Int} {i : Nat} (h : i < l.length) : g (start l).left i = g l i * (l.length : Int) := by
  refine g_some ?_
  show (l.map (fun x => x * (l.length : Int)))[i]? = _
  rw [List.getElem?_map, get_g h]; rfl
theorem sum_mul (n : Int) : ∀ l : List Int, (l.map (fun x => x * n)).sum = l.sum * n
  | [] => by simp
  | x :: l => by rw [List.map_cons, List.sum_cons, List.sum_cons, sum_mul n l, Int.add_mul]
theorem start_perm (l : List Int) : (start l).act.Perm (List.range l.length) := List.filter_append_perm _ _
theorem start_mem (l : List Int) (i : Nat) : i ∈ (start l).act ↔ i < l.length := by rw [(start_perm l).mem_iff, List.mem_range]
theorem map_g (l : List Int) : (List.range l.length).map (g l) = l := by
  apply List.ext_getElem?
  intro i
  by_cases h : i < l.length
  · rw [List.getElem?_map, List.getElem?_range h, get_g h]; rfl
  · rw [List.getElem?_eq_none (by simp; omega), List.getElem?_eq_none (by omega)]
theorem start_inv {l : List Int} (hl : ∀ x ∈ l, 0 ≤ x ∧ x ≤ 1000000000000) (h40 : l.length ≤ 40) : Inv l l.sum (start l) := by
  have hb : ∀ i, i < l.length → 0 ≤ g l i ∧ g l i ≤ 1000000000000 := fun i hi => hl _ (List.mem_of_getElem? (get_g hi))
  have hbm : ∀ i, i < l.length → 0 ≤ g l i * (l.length : Int) ∧ g l i * (l.length : Int) ≤ 40000000000000 := fun i hi => by
    have h1 := hb i hi
    refine ⟨Int.mul_nonneg h1.1 (by omega), ?_⟩
    have h2 : g l i * (l.length : Int) ≤ 1000000000000 * (l.length : Int) := Int.mul_le_mul_of_nonneg_right h1.2 (by omega)
    omega
  refine ⟨by simp [start], by simp [start], by simp [start], (start_perm l).nodup_iff.2 List.nodup_range, fun i hi => (start_mem l i).1 hi, ?_, ?_, ?_, ?_, ?_, ?_, ?_⟩
  · intro c hc
    obtain ⟨h1, h2⟩ := List.mem_filter.1 hc
    have h3 := List.mem_range.1 h1
    rw [g_left h3]
    exact ⟨(hbm c h3).1, of_decide_eq_true h2⟩
  · intro q hq
    obtain ⟨h1, h2⟩ := List.mem_filter.1 hq
    have h3 := List.mem_range.1 h1
    rw [g_left h3]
    have h4 : ¬ g l q * (l.length : Int) < l.sum := by simpa using h2
    exact ⟨by omega, (hbm q h3).2⟩
  · rw [perm_sum ((start_perm l).map _), (start_perm l).length_eq, List.length_range]
    have e : (List.range l.length).map (g (start l).left) = (start l).left := by
      have := map_g (start l).left
      rwa [show (start l).left.length = l.length from by simp [start]] at this
    rw [e]
    exact sum_mul _ l
  · intro i hi
    have h3 := (start_mem l i).1 hi
    exact ⟨g_some (by show (List.replicate _ _)[i]? = _; simp [h3]), g_some (by show (List.map _ _)[i]? = _; simp [h3])⟩
  · intro i hi hni
    exact absurd ((start_mem l i).2 hi) hni
  · intro i hi hk
    refine ⟨fun hh => ?_, fun _ => g_left hi, fun hn => absurd (List.mem_filter.2 ⟨List.mem_range.2 hi, decide_eq_true hk⟩) hn⟩
    have := (List.mem_filter.1 hh).2
    rw [decide_eq_true hk] at this
    cases this
  · intro j hj
    rw [if_pos ((start_mem l j).2 hj), g_left hj]
    have : dealt l.sum (start l) l.length j = 0 := by
      unfold dealt
      rw [sumTo_same (f := fun _ => 0) l.length (fun i hi => if_pos ((start_mem l i).2 hi))]
      clear hj hbm hb
      generalize l.length = n
      induction n with
      | zero => rfl
      | succ n ih => rw [sumTo, ih]; rfl
    omega
theorem start_len (l : List Int) : (start l).act.length = l.length := by rw [(start_perm l).length_eq, List.length_range]
theorem nodup_le : ∀ {L : List Nat} {n : Nat}, L.Nodup → (∀ i ∈ L, i < n) → L.length ≤ n
  | L, 0, _, h => by
    cases L with
    | nil => exact Nat.le_refl _
    | cons a L => exact absurd (h a (by simp)) (Nat.not_lt_zero _)
  | L, n + 1, hn, h => by
    have h1 := nodup_le (L := L.erase n) (n := n) (hn.erase n) (fun i hi => by
      have h2 := h i (List.mem_of_mem_erase hi)
      have h3 : i ≠ n := fun e => by subst e; exact (hn.not_mem_erase) hi
      omega)
    have h4 : L.length ≤ (L.erase n).length + 1 := by
      rw [List.length_erase]; split <;> omega
    omega
theorem Inv.low_le {l : List Int} {A : Int} {s : St} {c q : Nat} {lw hg : List Nat} (h : Inv l A s) (h1 : s.low = lw ++ [c]) (h2 : s.high = hg ++ [q]) : lw.length + hg.length + 2 ≤ l.length := by
  have := nodup_le h.nd h.lt
  unfold St.act at this
  rw [h1, h2] at this
  simp at this
  omega
/-- the table that the method makes -/
def table (l : List Int) : St := fillN l.sum l.length (start l)
theorem fill_inv {l : List Int} {A : Int} : ∀ (f : Nat) (s : St), Inv l A s → s.act.length ≤ f → Inv l A (fillN A f s) ∧ (fillN A f s).low = []
  | 0, s, h, hf => by
    have : s.act = [] := List.length_eq_zero_iff.1 (by omega)
    exact ⟨h, (List.append_eq_nil_iff.1 this).1⟩
  | f + 1, s, h, hf => by
    by_cases e : s.low = []
    · rw [fillN_done e]; exact ⟨h, e⟩
    · obtain ⟨lw, c, h1⟩ : ∃ lw c, s.low = lw ++ [c] := ⟨_, _, (List.dropLast_concat_getLast e).symm⟩
      obtain ⟨hg, q, h2⟩ : ∃ hg q, s.high = hg ++ [q] := ⟨_, _, (List.dropLast_concat_getLast (h.giver e)).symm⟩
      rw [fillN_step h1 h2]
      refine fill_inv f _ (h.next h1 h2) ?_
      have := (next_perm (A := A) h1 h2).length_eq
      rw [List.length_cons] at this
      omega
theorem table_inv {l : List Int} (hl : ∀ x ∈ l, 0 ≤ x ∧ x ≤ 1000000000000) (h40 : l.length ≤ 40) : Inv l l.sum (table l) ∧ (table l).low = [] :=
  fill_inv _ _ (start_inv hl h40) (by rw [start_len]; exact Nat.le_refl _)
end Walker
end Go.Proofs.Ytfgcmlgdgmcffab
