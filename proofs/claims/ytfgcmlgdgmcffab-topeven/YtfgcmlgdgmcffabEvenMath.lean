/- Points that lie evenly over running sums: how many of them each weight gets. Mathematics alone. -/
import Derived.Test.YtfgcmlgdgmcffabCumMath
namespace Go.Proofs.Ytfgcmlgdgmcffab
namespace Cum

/-- how many points (s + j * A) are below y -/
def cutI (A s y : Int) : Int := (y - s + A - 1) / A
theorem cut_nonneg {A s y : Int} (hA : 0 < A) (hs : s < A) (hy : 0 ≤ y) : 0 ≤ cutI A s y := Int.ediv_nonneg (by omega) (by omega)
theorem cut_up {A s y : Int} (hA : 0 < A) : A * cutI A s y ≤ y - s + A - 1 := Int.mul_ediv_self_le (by omega)
theorem cut_low {A s y : Int} (hA : 0 < A) : y - s ≤ A * cutI A s y := by
  have := Int.lt_mul_ediv_self_add (x := y - s + A - 1) hA
  unfold cutI
  omega
theorem cut_iff {A s y : Int} (hA : 0 < A) (j : Int) : j < cutI A s y ↔ s + j * A < y := by
  show j + 1 ≤ cutI A s y ↔ _
  unfold cutI
  rw [Int.le_ediv_iff_mul_le hA, Int.add_mul, Int.one_mul]
  omega
theorem cut_mono {A s y y' : Int} (hA : 0 < A) (h : y ≤ y') : cutI A s y ≤ cutI A s y' := Int.ediv_le_ediv hA (by omega)
theorem cut_le {A s y : Int} {k : Nat} (hA : 0 < A) (hs : 0 ≤ s) (hy : y ≤ A * (k : Int)) : cutI A s y ≤ (k : Int) := by
  have h : cutI A s y < (k : Int) + 1 := Int.ediv_lt_of_lt_mul hA (by rw [Int.add_mul, Int.one_mul, Int.mul_comm (k : Int) A]; omega)
  omega

/-- how often each index is picked by k points from the start s on -/
def evenL (l : List Int) (k : Nat) (s : Int) : List Int := tally (fun j => place l k (s + (j : Int) * l.sum)) l.length k
theorem evenL_len (l : List Int) (k : Nat) (s : Int) : (evenL l k s).length = l.length := tally_len _ _ _
theorem point_bd {A s : Int} {k j : Nat} (hs : 0 ≤ s) (hsA : s < A) (hj : j < k) : 0 ≤ s + (j : Int) * A ∧ s + (j : Int) * A < A * (k : Int) := by
  have h1 : 0 ≤ (j : Int) * A := Int.mul_nonneg (by omega) (by omega)
  have h2 : ((j : Int) + 1) * A ≤ (k : Int) * A := Int.mul_le_mul_of_nonneg_right (by omega) (by omega)
  rw [Int.add_mul, Int.one_mul] at h2
  rw [Int.mul_comm A]
  omega
theorem evenL_get {l : List Int} {k : Nat} {s : Int} (hz : ∀ x ∈ l, 0 ≤ x) (hs : 0 ≤ s) (hsA : s < l.sum) {i : Nat} (hi : i < l.length) :
    (evenL l k s)[i]? = some (cutI l.sum s (pre l (i + 1) * k) - cutI l.sum s (pre l i * k)) := by
  have hA : 0 < l.sum := by omega
  have n0 : 0 ≤ pre l i * (k : Int) := Int.mul_nonneg (pre_nonneg hz _) (by omega)
  have n1 : pre l i * (k : Int) ≤ pre l (i + 1) * (k : Int) := Int.mul_le_mul_of_nonneg_right (pre_step hz i) (by omega)
  have n2 : pre l (i + 1) * (k : Int) ≤ l.sum * (k : Int) := Int.mul_le_mul_of_nonneg_right (pre_le hz _) (by omega)
  have c0 := cut_nonneg (A := l.sum) (s := s) (y := pre l i * k) hA hsA n0
  have c1 := cut_mono (s := s) hA n1
  have c2 := cut_le (k := k) hA hs n2
  unfold evenL
  rw [tally_get hi, countP_between (a := (cutI l.sum s (pre l i * k)).toNat) (b := (cutI l.sum s (pre l (i + 1) * k)).toNat) (by omega) (by omega)]
  · congr 1
    omega
  · intro j hj
    have hp := point_bd (A := l.sum) hs hsA hj
    rw [beq_iff_eq, place_iff hz (by omega) hp.1 hi]
    have h1 := cut_iff (A := l.sum) (s := s) (y := pre l i * k) hA j
    have h2 := cut_iff (A := l.sum) (s := s) (y := pre l (i + 1) * k) hA j
    omega
theorem evenL_sum {l : List Int} {k : Nat} {s : Int} (hs : 0 ≤ s) (hsA : s < l.sum) : (evenL l k s).sum = (k : Int) := by
  unfold evenL
  refine sum_tally (fun j hj => ?_)
  have hp := point_bd (A := l.sum) hs hsA hj
  exact place_lt hp.1 hp.2
/-- what an index gets differs from its share by less than one -/
theorem quota {l : List Int} {k : Nat} {s : Int} (hz : ∀ x ∈ l, 0 ≤ x) (hs : 0 ≤ s) (hsA : s < l.sum) {i : Nat} {x m : Int} (hx : l[i]? = some x) (hm : (evenL l k s)[i]? = some m) :
    m * l.sum - (k : Int) * x < l.sum ∧ - (m * l.sum - (k : Int) * x) < l.sum := by
  have hi : i < l.length := (List.getElem?_eq_some_iff.1 hx).1
  rw [evenL_get hz hs hsA hi, Option.some.injEq] at hm
  subst hm
  have hA : 0 < l.sum := by omega
  have a1 := cut_up (s := s) (y := pre l (i + 1) * k) hA
  have a2 := cut_low (s := s) (y := pre l (i + 1) * k) hA
  have b1 := cut_up (s := s) (y := pre l i * k) hA
  have b2 := cut_low (s := s) (y := pre l i * k) hA
  rw [pre_succ hx, Int.add_mul] at a1 a2 ⊢
  rw [Int.sub_mul, Int.mul_comm _ l.sum, Int.mul_comm _ l.sum, Int.mul_comm (k : Int) x]
  omega
theorem evenL_zero {l : List Int} {k : Nat} {s : Int} (hz : ∀ x ∈ l, 0 ≤ x) (hs : 0 ≤ s) (hsA : s < l.sum) {i : Nat} (hx : l[i]? = some 0) : (evenL l k s)[i]? = some 0 := by
  rw [evenL_get hz hs hsA (List.getElem?_eq_some_iff.1 hx).1, pre_succ hx, Int.add_zero, Int.sub_self]
/-- a greater weight gets at most one less -/
theorem even_more {l : List Int} {k : Nat} {s : Int} (hz : ∀ x ∈ l, 0 ≤ x) (hs : 0 ≤ s) (hsA : s < l.sum) {i j : Nat} {x y m n : Int} (hx : l[i]? = some x) (hy : l[j]? = some y) (hm : (evenL l k s)[i]? = some m) (hn : (evenL l k s)[j]? = some n) (hxy : y < x) : n - 1 ≤ m := by
  have q1 := (quota hz hs hsA hx hm).2
  have q2 := (quota hz hs hsA hy hn).1
  have h : (k : Int) * y ≤ (k : Int) * x := Int.mul_le_mul_of_nonneg_left (by omega) (by omega)
  have hA : 0 < l.sum := by omega
  have e : (n - m) * l.sum < 2 * l.sum := by rw [Int.sub_mul]; omega
  have := Int.lt_of_mul_lt_mul_right e (by omega)
  omega

/-- over the starts below t -/
def sumCut (A y : Int) : Nat → Int
  | 0 => 0
  | t + 1 => sumCut A y t + cutI A t y
theorem sumCut_zero {A : Int} : ∀ t : Nat, (t : Int) ≤ A → sumCut A 0 t = 0
  | 0, _ => rfl
  | t + 1, h => by
    rw [sumCut, sumCut_zero t (by omega)]
    have : cutI A t 0 = 0 := by
      unfold cutI
      exact Int.ediv_eq_zero_of_lt (by omega) (by omega)
    rw [this]; rfl
theorem cut_shift (A s y : Int) : cutI A (s + 1) (y + 1) = cutI A s y := by unfold cutI; congr 1; omega
theorem sumCut_step (A y : Int) : ∀ t : Nat, sumCut A (y + 1) t = sumCut A y t + cutI A (-1) y - cutI A ((t : Int) - 1) y
  | 0 => by simp [sumCut]
  | t + 1 => by
    rw [sumCut, sumCut_step A y t, sumCut]
    have h1 := cut_shift A ((t : Int) - 1) y
    rw [show (t : Int) - 1 + 1 = t from by omega] at h1
    rw [h1, show ((t + 1 : Nat) : Int) - 1 = t from by omega]
    omega
theorem sumCut_all {t : Nat} (ht : 0 < t) (y : Nat) : sumCut t y t = (y : Int) := by
  induction y with
  | zero => exact sumCut_zero t (Int.le_refl _)
  | succ y ih =>
    rw [show ((y + 1 : Nat) : Int) = (y : Int) + 1 from by omega, sumCut_step, ih]
    have : cutI t (-1) y = cutI t ((t : Int) - 1) y + 1 := by
      unfold cutI
      rw [show (y : Int) - -1 + t - 1 = (y : Int) - ((t : Int) - 1) + t - 1 + t from by omega, Int.add_ediv_of_dvd_right (Int.dvd_refl _), Int.ediv_self (by omega)]
    omega
/-- what index i got over the starts below t -/
def gotI (l : List Int) (k t i : Nat) : Int := sumCut l.sum (pre l (i + 1) * k) t - sumCut l.sum (pre l i * k) t
theorem gotI_zero (l : List Int) (k i : Nat) : gotI l k 0 i = 0 := by simp [gotI, sumCut]
theorem gotI_succ {l : List Int} {k t : Nat} (hz : ∀ x ∈ l, 0 ≤ x) (ht : (t : Int) < l.sum) {i : Nat} {m : Int} (hm : (evenL l k t)[i]? = some m) : gotI l k (t + 1) i = gotI l k t i + m := by
  have hi : i < l.length := by have := (List.getElem?_eq_some_iff.1 hm).1; rwa [evenL_len] at this
  rw [evenL_get hz (by omega) ht hi, Option.some.injEq] at hm
  subst hm
  unfold gotI
  rw [sumCut, sumCut]
  omega
theorem gotI_all {l : List Int} {k t : Nat} (hz : ∀ x ∈ l, 0 ≤ x) (ht : (t : Int) = l.sum) (h0 : 0 < t) {i : Nat} {x : Int} (hx : l[i]? = some x) : gotI l k t i = (k : Int) * x := by
  have a1 : ∀ i, sumCut l.sum (pre l i * k) t = pre l i * k := fun i => by
    obtain ⟨n, hn⟩ := Int.eq_ofNat_of_zero_le (Int.mul_nonneg (pre_nonneg hz i) (Int.natCast_nonneg k) : 0 ≤ pre l i * (k : Int))
    rw [hn, ← ht]
    exact sumCut_all h0 n
  unfold gotI
  rw [a1, a1, pre_succ hx, Int.add_mul, Int.mul_comm (k : Int)]
  omega
end Cum
end Go.Proofs.Ytfgcmlgdgmcffab
