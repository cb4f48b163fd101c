/- The picks of a table counted part by part, column by column in each: each index is picked as often as by the running sums. Mathematics alone. -/
import Derived.Test.YteddoccgbebbeabWalkerShare
import Derived.Test.YteddoccgbebbeabCumLaws
namespace Go.Proofs.Yteddoccgbebbeab
namespace Top
open Walker

def S (f : Nat → Int) : Nat → Int
  | 0 => 0
  | n + 1 => S f n + f n
theorem S_congr {f g : Nat → Int} : ∀ {n : Nat}, (∀ i, i < n → f i = g i) → S f n = S g n
  | 0, _ => rfl
  | n + 1, h => by rw [S, S, S_congr (fun i hi => h i (by omega)), h n (by omega)]
theorem S_plus (f g : Nat → Int) : ∀ n, S (fun i => f i + g i) n = S f n + S g n
  | 0 => rfl
  | n + 1 => by rw [S, S, S, S_plus f g n]; omega
theorem S_add (f : Nat → Int) (a : Nat) : ∀ b, S f (a + b) = S f a + S (fun c => f (a + c)) b
  | 0 => by simp [S]
  | b + 1 => by rw [← Nat.add_assoc, S, S_add f a b, S]; omega
theorem S_mul (f : Nat → Int) (n : Nat) : ∀ A, S f (A * n) = S (fun p => S (fun c => f (p * n + c)) n) A
  | 0 => by simp [S]
  | A + 1 => by rw [Nat.succ_mul, S_add, S_mul f n A, S]
theorem S_swap (G : Nat → Nat → Int) (n : Nat) : ∀ A, S (fun p => S (fun c => G p c) n) A = S (fun c => S (fun p => G p c) A) n
  | 0 => by
    rw [S]
    have : ∀ k, (0 : Int) = S (fun c => S (fun p => G p c) 0) k := by
      intro k
      induction k with
      | zero => rfl
      | succ k ih => rw [S, ← ih]; rfl
    exact this n
  | A + 1 => by
    rw [S, S_swap G n A, ← S_plus]
    exact S_congr (fun i _ => rfl)
theorem countP_S (p : Nat → Bool) : ∀ n, (((List.range n).countP p : Nat) : Int) = S (fun j => if p j = true then 1 else 0) n
  | 0 => rfl
  | n + 1 => by
    rw [Cum.countP_range_succ, S, ← countP_S p n]
    by_cases h : p n = true
    · rw [if_pos h, if_pos h]; rfl
    · rw [if_neg h, if_neg h]; rfl
/-- the parts below o pick c, the others r -/
theorem one_col {c r m : Nat} {o : Int} (ho : 0 ≤ o) : ∀ A : Nat, S (fun p => if (if (p : Int) < o then c else r) = m then 1 else 0) A = (if c = m then min (A : Int) o else 0) + (if r = m then (A : Int) - min (A : Int) o else 0)
  | 0 => by
    rw [S, show min ((0 : Nat) : Int) o = 0 from by omega]
    split <;> split <;> rfl
  | A + 1 => by
    rw [S, one_col ho A]
    by_cases h : (A : Int) < o
    · rw [if_pos h, show min (A : Int) o = A from by omega, show min ((A + 1 : Nat) : Int) o = (A : Int) + 1 from by omega]
      by_cases e1 : c = m <;> by_cases e2 : r = m <;> simp [e1, e2] <;> omega
    · rw [if_neg h, show min (A : Int) o = o from by omega, show min ((A + 1 : Nat) : Int) o = o from by omega]
      by_cases e1 : c = m <;> by_cases e2 : r = m <;> simp [e1, e2] <;> omega
/-- the column's pick -/
def pk (O R : List Int) (c p : Nat) : Nat := if (p : Int) < g O c then c else (g R c).toNat
theorem shares_S {A : Int} {O R : List Int} {n : Nat} (hcol : ∀ i, i < n → 0 ≤ g R i) (hO : O.length = n) (hR : R.length = n) {m : Nat} (hm : m < n) : ∀ k, k ≤ n → (sharesTo A O R n k)[m]? = some (S (fun c => (if c = m then g O c else 0) + (if (g R c).toNat = m then A - g O c else 0)) k)
  | 0, _ => by rw [sharesTo, List.getElem?_replicate, if_pos hm]; rfl
  | k + 1, hk => by
    have ih := shares_S (A := A) hcol hO hR hm k (by omega)
    obtain ⟨o, ho⟩ : ∃ o, O[k]? = some o := ⟨_, List.getElem?_eq_getElem (by omega)⟩
    obtain ⟨r, hr⟩ : ∃ r, R[k]? = some r := ⟨_, List.getElem?_eq_getElem (by omega)⟩
    have hr0 := hcol k (by omega)
    rw [g_some hr] at hr0
    obtain ⟨j, rfl⟩ := Int.eq_ofNat_of_zero_le hr0
    rw [share_step ho hr ih, S, g_some ho, g_some hr, Int.toNat_natCast, Int.add_assoc]
/-- all picks of the table, in the order of parts and columns -/
theorem two_all {A n : Nat} {O R W : List Int} (hcol : ∀ i, i < n → (0 ≤ g O i ∧ g O i ≤ (A : Int)) ∧ 0 ≤ g R i) (hO : O.length = n) (hR : R.length = n) (hW : W.length = n) (hn : 0 < n)
    (hsh : ∀ j, j < n → (sharesTo A O R n n)[j]? = some (g W j * (n : Int))) : Cum.tally (fun j => pk O R (j % n) (j / n)) n (A * n) = W.map (fun x => x * (n : Int)) := by
  apply List.ext_getElem?
  intro m
  by_cases hm : m < n
  · obtain ⟨x, hx⟩ : ∃ x, W[m]? = some x := ⟨_, List.getElem?_eq_getElem (by omega)⟩
    rw [Cum.tally_get hm, countP_S, S_mul, List.getElem?_map, hx, Option.map_some]
    congr 1
    have h1 : S (fun p => S (fun c => if (pk O R ((p * n + c) % n) ((p * n + c) / n) == m) = true then 1 else 0) n) A = S (fun p => S (fun c => if (if (p : Int) < g O c then c else (g R c).toNat) = m then 1 else 0) n) A := by
      refine S_congr (fun p _ => S_congr (fun c hc => ?_))
      rw [Nat.mul_comm p n, Nat.mul_add_mod, Nat.mod_eq_of_lt hc, Nat.mul_add_div hn, Nat.div_eq_of_lt hc, Nat.add_zero, pk]
      simp only [beq_iff_eq]
    rw [h1, S_swap (fun p c => if (if (p : Int) < g O c then c else (g R c).toNat) = m then 1 else 0) n A]
    have h2 := hsh m hm
    rw [shares_S (fun i hi => (hcol i hi).2) hO hR hm n (Nat.le_refl _), Option.some.injEq, g_some hx] at h2
    rw [← h2]
    refine S_congr (fun c hc => ?_)
    rw [one_col (hcol c hc).1.1, show min (A : Int) (g O c) = g O c from by have := (hcol c hc).1.2; omega]
  · rw [List.getElem?_eq_none (by rw [Cum.tally_len]; omega), List.getElem?_eq_none (by rw [List.length_map]; omega)]
/-- n for each pick by running sums -/
def oneL (W : List Int) (n i : Nat) : List Int := (Cum.tally (fun p : Nat => Cum.place W 1 (p : Int)) n i).map (fun y => y * (n : Int))
theorem oneL_zero (W : List Int) (n : Nat) : oneL W n 0 = List.replicate n 0 := by unfold oneL; rw [Cum.tally_zero, List.map_replicate, Int.zero_mul]
theorem oneL_len (W : List Int) (n i : Nat) : (oneL W n i).length = n := by unfold oneL; rw [List.length_map, Cum.tally_len]
theorem oneL_succ {W : List Int} {n i : Nat} {z : Int} (hz : (oneL W n i)[Cum.place W 1 (i : Int)]? = some z) : (oneL W n i).set (Cum.place W 1 (i : Int)) (z + n) = oneL W n (i + 1) := by
  unfold oneL at hz ⊢
  rw [List.getElem?_map] at hz
  cases hy : (Cum.tally (fun p : Nat => Cum.place W 1 (p : Int)) n i)[Cum.place W 1 (i : Int)]? with
  | none => rw [hy] at hz; cases hz
  | some y =>
    rw [hy, Option.map_some, Option.some.injEq] at hz
    rw [← Cum.tally_succ (f := fun p : Nat => Cum.place W 1 (p : Int)) hy, List.map_set, ← hz, Int.add_mul, Int.one_mul]
theorem oneL_all {W : List Int} (hz : ∀ x ∈ W, 0 ≤ x) {A n : Nat} (hA : (A : Int) = W.sum) (hn : W.length = n) : oneL W n A = W.map (fun x => x * (n : Int)) := by
  unfold oneL
  have := Cum.picks_all hz hA
  rw [hn] at this
  rw [this]
theorem oneL_mem {W : List Int} {n i : Nat} {z : Int} (h : z ∈ oneL W n i) : 0 ≤ z ∧ z ≤ (i : Int) * (n : Int) := by
  obtain ⟨y, hy, rfl⟩ := List.mem_map.1 h
  have := Cum.tally_mem hy
  exact ⟨Int.mul_nonneg this.1 (by omega), Int.mul_le_mul_of_nonneg_right this.2 (by omega)⟩
end Top
end Go.Proofs.Yteddoccgbebbeab
