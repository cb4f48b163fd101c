/- Texts joined: RegsBig, FewMath. -/
import Derived.Test.YtffgoekdjcempabGr25
/- Registers after many random values: the greatest noughts of each place. Mathematics alone. -/
namespace Go.Proofs.Ytffgoekdjcempab
open Go.Lib
namespace Regs

/-- what stands at place j of N -/
def bigN (N j : Int) : List Int → Int
  | [] => 0
  | x :: L => if x % N = j then max (noughtsR x N) (bigN N j L) else bigN N j L
def regL (N : Nat) (L : List Int) : List Int := (List.range N).map (fun (j : Nat) => bigN (N : Int) (j : Int) L)
theorem bigN_bd (N j : Int) : ∀ L : List Int, 0 ≤ bigN N j L ∧ bigN N j L ≤ 57
  | [] => by simp [bigN]
  | x :: L => by
    have := bigN_bd N j L
    have h : noughtsR x N ≤ 57 := by unfold noughtsR; omega
    rw [bigN]
    split <;> omega
theorem bigN_append (N j : Int) : ∀ L M : List Int, bigN N j (L ++ M) = max (bigN N j L) (bigN N j M)
  | [], M => by have := bigN_bd N j M; rw [List.nil_append, bigN]; omega
  | x :: L, M => by
    rw [List.cons_append, bigN, bigN, bigN_append N j L M]
    split <;> omega
theorem regL_len (N : Nat) (L : List Int) : (regL N L).length = N := by simp [regL]
theorem regL_get {N j : Nat} (L : List Int) (h : j < N) : (regL N L)[j]? = some (bigN (N : Int) (j : Int) L) := by simp [regL, h]
theorem regL_nil (N : Nat) : regL N [] = List.replicate N 0 := by
  refine List.ext_getElem? fun j => ?_
  by_cases h : j < N
  · rw [regL_get _ h]; simp [h, bigN]
  · rw [List.getElem?_eq_none (by rw [regL_len]; omega), List.getElem?_eq_none (by simp; omega)]
theorem regL_ok {N : Nat} (h : lenR N = true) (L : List Int) : regE (regL N L) = 0 := by
  refine regE_zero.2 ⟨by rw [regL_len]; exact h, fun x hx => ?_⟩
  obtain ⟨j, _, rfl⟩ := List.mem_map.1 hx
  exact bigN_bd _ _ _
theorem regL_put {N : Nat} (h : 1 ≤ N) (L : List Int) {x : Int} (hx : 0 ≤ x) : putR (regL N L) x = regL N (L ++ [x]) := by
  unfold putR
  rw [regL_len]
  obtain ⟨k, hk⟩ : ∃ k : Nat, x % (N : Int) = (k : Int) := ⟨(x % (N : Int)).toNat, by have := Int.emod_nonneg x (show (N : Int) ≠ 0 by omega); omega⟩
  have hkN : k < N := by have := Int.emod_lt_of_pos x (show (0 : Int) < N by omega); omega
  rw [hk]
  simp only [Int.toNat_natCast]
  refine List.ext_getElem? fun j => ?_
  by_cases hj : j < N
  · rw [regL_get _ hj, bigN_append, bigN, bigN, hk]
    by_cases hjk : k = j
    · subst hjk
      rw [List.getElem?_set_self (by rw [regL_len]; exact hj), if_pos rfl, List.getD_eq_getElem?_getD, regL_get _ hj]
      have := bigN_bd (N : Int) (k : Int) L
      rw [Option.getD_some]
      congr 1
      omega
    · rw [List.getElem?_set_ne hjk, regL_get _ hj, if_neg (by omega)]
      have := bigN_bd (N : Int) (j : Int) L
      congr 1
      omega
  · rw [List.getElem?_eq_none (by rw [List.length_set, regL_len]; omega), List.getElem?_eq_none (by rw [regL_len]; omega)]
theorem regL_join (N : Nat) (L M : List Int) : joinR (regL N L) (regL N M) = regL N (L ++ M) := by
  refine List.ext_getElem? fun j => ?_
  by_cases hj : j < N
  · rw [joinR_get (regL_get L hj) (regL_get M hj), regL_get _ hj, bigN_append]
  · rw [List.getElem?_eq_none (by rw [joinR_len (by rw [regL_len, regL_len]), regL_len]; omega), List.getElem?_eq_none (by rw [regL_len]; omega)]
theorem regL_same {N : Nat} {L M : List Int} (h : ∀ j, bigN (N : Int) j L = bigN (N : Int) j M) : regL N L = regL N M := by
  unfold regL
  exact List.map_congr_left (fun j _ => h j)
theorem putL_reg {N : Nat} (h : lenR N = true) (L : List Int) {x : Int} (h0 : 0 ≤ x) (h1 : x < 72057594037927936) : putE (regL N L) x = 0 ∧ putL (regL N L) x = regL N (L ++ [x]) := by
  have e : putE (regL N L) x = 0 := putE_zero.2 ⟨regL_ok h L, h0, h1⟩
  exact ⟨e, by unfold putL; rw [if_pos e, regL_put (lenR_pos h).1 L h0]⟩
theorem joinL_reg {N : Nat} (h : lenR N = true) (L M : List Int) : pairE (regL N L) (regL N M) = 0 ∧ joinL (regL N L) (regL N M) = regL N (L ++ M) := by
  have e : pairE (regL N L) (regL N M) = 0 := pairE_zero.2 ⟨regL_ok h L, regL_ok h M, by rw [regL_len, regL_len]⟩
  exact ⟨e, by unfold joinL; rw [if_pos e, regL_join]⟩
theorem own_ints {w : World} {base : Nat} {e : TypeId} {v : Value} {l : List Int} {K : Nat} (h : Own w base e 1 v (l.map iC)) (hl : l.length = K) : ∃ a cap, v = .slice a K cap ∧ Tab w a K cap 1 (l.map iC) := by
  obtain ⟨a, cap, rfl, T⟩ := h.tab
  rw [List.length_map, hl] at T ⊢
  exact ⟨a, cap, rfl, T⟩
end Regs
end Go.Proofs.Ytffgoekdjcempab

/- What comes often, by a few counters: what is wrong with a sketch. Mathematics alone. -/
namespace Go.Proofs.Ytffgoekdjcempab
namespace Few

/-- does a key come no later than the one ahead of it? -/
def late : Option Int → Int → Bool
  | none, _ => false
  | some y, x => decide (x ≤ y)
/-- what is wrong with counters that come behind a key -/
def keyE : Option Int → List (Int × Int) → Int
  | _, [] => 0
  | p, c :: C => if c.2 < 1 ∨ 1000000000000 < c.2 then 1 else if late p c.1 = true then 3 else keyE (some c.1) C
/-- the key ahead of the k-th counter -/
def prevK (C : List (Int × Int)) : Nat → Option Int
  | 0 => none
  | k + 1 => (C[k]?).map (·.1)
/-- what is wrong with a sketch -/
def fewE (K L : Int) (C : List (Int × Int)) : Int :=
  if K < 1 ∨ 16 < K ∨ L < 0 ∨ 1000000000000 < L then 1 else if K < (C.length : Int) then 2 else keyE none C

theorem key_at {C : List (Int × Int)} {k : Nat} {c : Int × Int} (p : Option Int) (h : C[k]? = some c) :
    keyE p (C.drop k) = if c.2 < 1 ∨ 1000000000000 < c.2 then 1 else if late p c.1 = true then 3 else keyE (some c.1) (C.drop (k + 1)) := by
  have hk := (List.getElem?_eq_some_iff.1 h).1
  have e : C.drop k = c :: C.drop (k + 1) := by
    rw [List.drop_eq_getElem_cons hk, (List.getElem?_eq_some_iff.1 h).2]
  rw [e, keyE]
theorem prev_succ {C : List (Int × Int)} {k : Nat} {c : Int × Int} (h : C[k]? = some c) : prevK C (k + 1) = some c.1 := by
  rw [prevK, h]; rfl

theorem keyE_zero : ∀ {C : List (Int × Int)} {p : Option Int}, keyE p C = 0 → (∀ c ∈ C, 1 ≤ c.2 ∧ c.2 ≤ 1000000000000) ∧ C.Pairwise (fun a b => a.1 < b.1) ∧ ∀ y, p = some y → ∀ c ∈ C, y < c.1
  | [], p, _ => ⟨by simp, List.Pairwise.nil, by simp⟩
  | c :: C, p, h => by
    rw [keyE] at h
    split at h
    · cases h
    split at h
    · cases h
    rename_i h1 h2
    obtain ⟨a1, a2, a3⟩ := keyE_zero h
    have a4 := a3 c.1 rfl
    refine ⟨fun d hd => ?_, List.Pairwise.cons a4 a2, fun y hy d hd => ?_⟩
    · rcases List.mem_cons.1 hd with rfl | hd
      · omega
      · exact a1 d hd
    · subst hy
      have h3 : y < c.1 := by
        have : ¬ c.1 ≤ y := fun hh => h2 (by simp [late, hh])
        omega
      rcases List.mem_cons.1 hd with rfl | hd
      · exact h3
      · exact Int.lt_trans h3 (a4 d hd)
theorem keyE_ok : ∀ {C : List (Int × Int)} {p : Option Int}, (∀ c ∈ C, 1 ≤ c.2 ∧ c.2 ≤ 1000000000000) → C.Pairwise (fun a b => a.1 < b.1) → (∀ y, p = some y → ∀ c ∈ C, y < c.1) → keyE p C = 0
  | [], _, _, _, _ => rfl
  | c :: C, p, h1, h2, h3 => by
    have a1 := h1 c (by simp)
    rw [keyE, if_neg (by omega), if_neg, keyE_ok (fun d hd => h1 d (by simp [hd])) (List.pairwise_cons.1 h2).2 (fun y hy d hd => by cases hy; exact (List.pairwise_cons.1 h2).1 d hd)]
    intro hl
    cases p with
    | none => simp [late] at hl
    | some y =>
      have := h3 y rfl c (by simp)
      simp [late] at hl
      omega
/-- a sketch that may be -/
structure Good (K L : Int) (C : List (Int × Int)) : Prop where
  k1 : 1 ≤ K
  k2 : K ≤ 16
  l1 : 0 ≤ L
  l2 : L ≤ 1000000000000
  len : (C.length : Int) ≤ K
  num : ∀ c ∈ C, 1 ≤ c.2 ∧ c.2 ≤ 1000000000000
  ord : C.Pairwise (fun a b => a.1 < b.1)
theorem fewE_zero {K L : Int} {C : List (Int × Int)} : fewE K L C = 0 ↔ Good K L C := by
  unfold fewE
  constructor
  · intro h
    split at h
    · cases h
    split at h
    · cases h
    rename_i h1 h2
    obtain ⟨a1, a2, _⟩ := keyE_zero h
    exact ⟨by omega, by omega, by omega, by omega, by omega, a1, a2⟩
  · rintro ⟨h1, h2, h3, h4, h5, h6, h7⟩
    rw [if_neg (by omega), if_neg (by omega)]
    exact keyE_ok h6 h7 (by simp)
theorem fewE_arg {K L : Int} {C : List (Int × Int)} (h : K < 1 ∨ 16 < K ∨ L < 0 ∨ 1000000000000 < L) : fewE K L C = 1 := if_pos h
theorem fewE_large {K L : Int} {C : List (Int × Int)} (h1 : 1 ≤ K) (h2 : K ≤ 16) (h3 : 0 ≤ L) (h4 : L ≤ 1000000000000) (h : K < (C.length : Int)) : fewE K L C = 2 := by
  unfold fewE; rw [if_neg (by omega), if_pos h]
theorem fewE_keys {K L : Int} {C : List (Int × Int)} (h1 : 1 ≤ K) (h2 : K ≤ 16) (h3 : 0 ≤ L) (h4 : L ≤ 1000000000000) (h : (C.length : Int) ≤ K) : fewE K L C = keyE none C := by
  unfold fewE; rw [if_neg (by omega), if_neg (by omega)]

/-- is x equal to more than half of a list? -/
def maj (l : List Int) (x : Int) : Bool := decide (l.length < 2 * l.count x)
/-- the one that is equal to more than half of a list, and whether there is one -/
def mostL (l : List Int) : Option Int := l.find? (maj l)
def mostN (l : List Int) : Int := (mostL l).getD 0
def mostB (l : List Int) : Bool := (mostL l).isSome
theorem mostL_at {l : List Int} {k : Nat} {x : Int} (h : l[k]? = some x) (hn : ∀ j, j < k → ∀ y, l[j]? = some y → maj l y = false) (hx : maj l x = true) : mostL l = some x := by
  have hk := (List.getElem?_eq_some_iff.1 h).1
  have e : l = l.take k ++ x :: l.drop (k + 1) := by
    conv => lhs; rw [← List.take_append_drop k l, List.drop_eq_getElem_cons hk, (List.getElem?_eq_some_iff.1 h).2]
  unfold mostL
  have hp : ∀ y ∈ l.take k, ¬ maj l y = true := fun y hy => by
    obtain ⟨j, hj⟩ := List.mem_iff_getElem?.1 hy
    have hjk : j < k := by
      have := (List.getElem?_eq_some_iff.1 hj).1
      rw [List.length_take] at this
      omega
    rw [List.getElem?_take, if_pos hjk] at hj
    rw [hn j hjk y hj]
    decide
  have hf : (l.take k).find? (maj l) = none := List.find?_eq_none.2 hp
  generalize hm : maj l = m at *
  conv => lhs; rw [e]
  rw [List.find?_append, hf, Option.none_or, List.find?_cons, hx]
theorem mostL_none {l : List Int} (hn : ∀ j, j < l.length → ∀ y, l[j]? = some y → maj l y = false) : mostL l = none :=
  List.find?_eq_none.2 (fun y hy => by
    obtain ⟨j, hj⟩ := List.mem_iff_getElem?.1 hy
    rw [hn j (List.getElem?_eq_some_iff.1 hj).1 y hj]
    decide)
theorem maj_mem {l : List Int} {x : Int} (h : maj l x = true) : x ∈ l := by
  unfold maj at h
  rw [decide_eq_true_iff] at h
  exact List.count_pos_iff.1 (by omega)
/-- there is at most one -/
theorem maj_one {l : List Int} {x y : Int} (hx : maj l x = true) (hy : maj l y = true) : x = y := by
  unfold maj at hx hy
  rw [decide_eq_true_iff] at hx hy
  rcases Decidable.em (x = y) with h | h
  · exact h
  exfalso
  have : ∀ m : List Int, m.count x + m.count y ≤ m.length := fun m => by
    induction m with
    | nil => simp
    | cons a m ih =>
      rw [List.count_cons, List.count_cons, List.length_cons]
      by_cases e1 : a = x
      · have e2 : ¬ a = y := fun e => h (e1.symm.trans e)
        rw [if_pos (by simpa using e1), if_neg (by simpa using e2)]
        omega
      · rw [if_neg (by simpa using e1)]
        split <;> omega
  have := this l
  omega
theorem mostL_of {l : List Int} {x : Int} (hx : maj l x = true) : mostL l = some x := by
  cases h : mostL l with
  | none => exact absurd hx (List.find?_eq_none.1 h x (maj_mem hx))
  | some y => rw [maj_one (List.find?_some h) hx]
theorem count_step {l : List Int} {j : Nat} {x y : Int} (h : l[j]? = some y) : (l.take (j + 1)).count x = (l.take j).count x + (if y = x then 1 else 0) := by
  rw [List.take_add_one, h, Option.toList_some, List.count_append, List.count_singleton]
  simp
end Few
end Go.Proofs.Ytffgoekdjcempab
