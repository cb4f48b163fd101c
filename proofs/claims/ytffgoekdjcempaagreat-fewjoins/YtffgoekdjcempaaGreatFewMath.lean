/- What comes often, by a few counters: what is wrong with a sketch. Mathematics alone. -/
namespace Go.Proofs.YtffgoekdjcempaaGreat
namespace Few

/-- does a key come no later than the one ahead of it? -/
def late : Option Int → Int → Bool
  | none, _ => false
  | some y, x => decide (x ≤ y)
/-- what is wrong with counters that come behind a key -/
def keyE : Option Int → List (Int × Int) → Int
  | _, [] => 0
  | p, c :: C => if c.2 < 1 ∨ 1000000000000 < c.2 then 1 else if late p c.1 = true then 3 else keyE (some c.1) C
/-- the key ahead of the k-th counter -/
def prevK (C : List (Int × Int)) : Nat → Option Int
  | 0 => none
  | k + 1 => (C[k]?).map (·.1)
/-- what is wrong with a sketch -/
def fewE (K L : Int) (C : List (Int × Int)) : Int :=
  if K < 1 ∨ 16 < K ∨ L < 0 ∨ 1000000000000 < L then 1 else if K < (C.length : Int) then 2 else keyE none C

theorem key_at {C : List (Int × Int)} {k : Nat} {c : Int × Int} (p : Option Int) (h : C[k]? = some c) :
    keyE p (C.drop k) = if c.2 < 1 ∨ 1000000000000 < c.2 then 1 else if late p c.1 = true then 3 else keyE (some c.1) (C.drop (k + 1)) := by
  have hk := (List.getElem?_eq_some_iff.1 h).1
  have e : C.drop k = c :: C.drop (k + 1) := by
    rw [List.drop_eq_getElem_cons hk, (List.getElem?_eq_some_iff.1 h).2]
  rw [e, keyE]
theorem prev_succ {C : List (Int × Int)} {k : Nat} {c : Int × Int} (h : C[k]? = some c) : prevK C (k + 1) = some c.1 := by
  rw [prevK, h]; rfl

theorem keyE_zero : ∀ {C : List (Int × Int)} {p : Option Int}, keyE p C = 0 → (∀ c ∈ C, 1 ≤ c.2 ∧ c.2 ≤ 1000000000000) ∧ C.Pairwise (fun a b => a.1 < b.1) ∧ ∀ y, p = some y → ∀ c ∈ C, y < c.1
  | [], p, _ => ⟨by simp, List.Pairwise.nil, by simp⟩
  | c :: C, p, h => by
    rw [keyE] at h
    split at h
    · cases h
    split at h
    · cases h
    rename_i h1 h2
    obtain ⟨a1, a2, a3⟩ := keyE_zero h
    have a4 := a3 c.1 rfl
    refine ⟨fun d hd => ?_, List.Pairwise.cons a4 a2, fun y hy d hd => ?_⟩
    · rcases List.mem_cons.1 hd with rfl | hd
      · omega
      · exact a1 d hd
    · subst hy
      have h3 : y < c.1 := by
        have : ¬ c.1 ≤ y := fun hh => h2 (by simp [late, hh])
        omega
      rcases List.mem_cons.1 hd with rfl | hd
      · exact h3
      · exact Int.lt_trans h3 (a4 d hd)
theorem keyE_ok : ∀ {C : List (Int × Int)} {p : Option Int}, (∀ c ∈ C, 1 ≤ c.2 ∧ c.2 ≤ 1000000000000) → C.Pairwise (fun a b => a.1 < b.1) → (∀ y, p = some y → ∀ c ∈ C, y < c.1) → keyE p C = 0
  | [], _, _, _, _ => rfl
  | c :: C, p, h1, h2, h3 => by
    have a1 := h1 c (by simp)
    rw [keyE, if_neg (by omega), if_neg, keyE_ok (fun d hd => h1 d (by simp [hd])) (List.pairwise_cons.1 h2).2 (fun y hy d hd => by cases hy; exact (List.pairwise_cons.1 h2).1 d hd)]
    intro hl
    cases p with
    | none => simp [late] at hl
    | some y =>
      have := h3 y rfl c (by simp)
      simp [late] at hl
      omega
/-- a sketch that may be -/
structure Good (K L : Int) (C : List (Int × Int)) : Prop where
  k1 : 1 ≤ K
  k2 : K ≤ 16
  l1 : 0 ≤ L
  l2 : L ≤ 1000000000000
  len : (C.length : Int) ≤ K
  num : ∀ c ∈ C, 1 ≤ c.2 ∧ c.2 ≤ 1000000000000
  ord : C.Pairwise (fun a b => a.1 < b.1)
theorem fewE_zero {K L : Int} {C : List (Int × Int)} : fewE K L C = 0 ↔ Good K L C := by
  unfold fewE
  constructor
  · intro h
    split at h
    · cases h
    split at h
    · cases h
    rename_i h1 h2
    obtain ⟨a1, a2, _⟩ := keyE_zero h
    exact ⟨by omega, by omega, by omega, by omega, by omega, a1, a2⟩
  · rintro ⟨h1, h2, h3, h4, h5, h6, h7⟩
    rw [if_neg (by omega), if_neg (by omega)]
    exact keyE_ok h6 h7 (by simp)
theorem fewE_arg {K L : Int} {C : List (Int × Int)} (h : K < 1 ∨ 16 < K ∨ L < 0 ∨ 1000000000000 < L) : fewE K L C = 1 := if_pos h
theorem fewE_large {K L : Int} {C : List (Int × Int)} (h1 : 1 ≤ K) (h2 : K ≤ 16) (h3 : 0 ≤ L) (h4 : L ≤ 1000000000000) (h : K < (C.length : Int)) : fewE K L C = 2 := by
  unfold fewE; rw [if_neg (by omega), if_pos h]
theorem fewE_keys {K L : Int} {C : List (Int × Int)} (h1 : 1 ≤ K) (h2 : K ≤ 16) (h3 : 0 ≤ L) (h4 : L ≤ 1000000000000) (h : (C.length : Int) ≤ K) : fewE K L C = keyE none C := by
  unfold fewE; rw [if_neg (by omega), if_neg (by omega)]

/-- is x equal to more than half of a list? -/
def maj (l : List Int) (x : Int) : Bool := decide (l.length < 2 * l.count x)
/-- the one that is equal to more than half of a list, and whether there is one -/
def mostL (l : List Int) : Option Int := l.find? (maj l)
def mostN (l : List Int) : Int := (mostL l).getD 0
def mostB (l : List Int) : Bool := (mostL l).isSome
theorem mostL_at {l : List Int} {k : Nat} {x : Int} (h : l[k]? = some x) (hn : ∀ j, j < k → ∀ y, l[j]? = some y → maj l y = false) (hx : maj l x = true) : mostL l = some x := by
  have hk := (List.getElem?_eq_some_iff.1 h).1
  have e : l = l.take k ++ x :: l.drop (k + 1) := by
    conv => lhs; rw [← List.take_append_drop k l, List.drop_eq_getElem_cons hk, (List.getElem?_eq_some_iff.1 h).2]
  unfold mostL
  have hp : ∀ y ∈ l.take k, ¬ maj l y = true := fun y hy => by
    obtain ⟨j, hj⟩ := List.mem_iff_getElem?.1 hy
    have hjk : j < k := by
      have := (List.getElem?_eq_some_iff.1 hj).1
      rw [List.length_take] at this
      omega
    rw [List.getElem?_take, if_pos hjk] at hj
    rw [hn j hjk y hj]
    decide
  have hf : (l.take k).find? (maj l) = none := List.find?_eq_none.2 hp
  generalize hm : maj l = m at *
  conv => lhs; rw [e]
  rw [List.find?_append, hf, Option.none_or, List.find?_cons, hx]
theorem mostL_none {l : List Int} (hn : ∀ j, j < l.length → ∀ y, l[j]? = some y → maj l y = false) : mostL l = none :=
  List.find?_eq_none.2 (fun y hy => by
    obtain ⟨j, hj⟩ := List.mem_iff_getElem?.1 hy
    rw [hn j (List.getElem?_eq_some_iff.1 hj).1 y hj]
    decide)
theorem maj_mem {l : List Int} {x : Int} (h : maj l x = true) : x ∈ l := by
  unfold maj at h
  rw [decide_eq_true_iff] at h
  exact List.count_pos_iff.1 (by omega)
/-- there is at most one -/
theorem maj_one {l : List Int} {x y : Int} (hx : maj l x = true) (hy : maj l y = true) : x = y := by
  unfold maj at hx hy
  rw [decide_eq_true_iff] at hx hy
  rcases Decidable.em (x = y) with h | h
  · exact h
  exfalso
  have : ∀ m : List Int, m.count x + m.count y ≤ m.length := fun m => by
    induction m with
    | nil => simp
    | cons a m ih =>
      rw [List.count_cons, List.count_cons, List.length_cons]
      by_cases e1 : a = x
      · have e2 : ¬ a = y := fun e => h (e1.symm.trans e)
        rw [if_pos (by simpa using e1), if_neg (by simpa using e2)]
        omega
      · rw [if_neg (by simpa using e1)]
        split <;> omega
  have := this l
  omega
theorem mostL_of {l : List Int} {x : Int} (hx : maj l x = true) : mostL l = some x := by
  cases h : mostL l with
  | none => exact absurd hx (List.find?_eq_none.1 h x (maj_mem hx))
  | some y => rw [maj_one (List.find?_some h) hx]
theorem count_step {l : List Int} {j : Nat} {x y : Int} (h : l[j]? = some y) : (l.take (j + 1)).count x = (l.take j).count x + (if y = x then 1 else 0) := by
  rw [List.take_add_one, h, Option.toList_some, List.count_append, List.count_singleton]
  simp
end Few
end Go.Proofs.YtffgoekdjcempaaGreat
