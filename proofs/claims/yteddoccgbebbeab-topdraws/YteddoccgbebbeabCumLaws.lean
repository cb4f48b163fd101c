/- What the picks by running sums keep to: their order, how often each index is picked, a weight more at the end. Mathematics alone. -/
import Derived.Test.YteddoccgbebbeabCumMath
namespace Go.Proofs.Yteddoccgbebbeab
namespace Cum

theorem place_mono {l : List Int} {k x y : Int} (hz : ∀ x ∈ l, 0 ≤ x) (hk : 0 ≤ k) (hx : 0 ≤ x) (hxy : x ≤ y) (hy : y < l.sum * k) : place l k x ≤ place l k y := by
  have h1 := place_spec hz hk hx (by omega : x < l.sum * k)
  have h2 := place_spec hz hk (by omega : 0 ≤ y) hy
  by_cases e : place l k x ≤ place l k y
  · exact e
  · have := Int.mul_le_mul_of_nonneg_right (pre_mono hz (i := place l k y + 1) (j := place l k x) (by omega)) hk
    omega
theorem place_pos {l : List Int} {x : Int} (hz : ∀ x ∈ l, 0 ≤ x) (hx : 0 ≤ x) (h : x < l.sum) : ∃ y, l[place l 1 x]? = some y ∧ 0 < y := by
  have h1 := place_spec (k := 1) hz (by omega) hx (by omega)
  obtain ⟨y, hy⟩ : ∃ y, l[place l 1 x]? = some y := ⟨_, List.getElem?_eq_getElem h1.1⟩
  refine ⟨y, hy, ?_⟩
  rw [pre_succ hy] at h1
  omega
theorem pre_append {l : List Int} {z : Int} {i : Nat} (h : i ≤ l.length) : pre (l ++ [z]) i = pre l i := by
  unfold pre
  rw [List.take_append_of_le_length h]
theorem place_append {l : List Int} {x z : Int} (hz : ∀ x ∈ l, 0 ≤ x) (h0 : 0 ≤ z) (hx : 0 ≤ x) (h : x < l.sum) : place (l ++ [z]) 1 x = place l 1 x := by
  have h1 := place_spec (k := 1) hz (by omega) hx (by omega)
  rw [place_iff (i := place l 1 x) (by
    intro y hy
    rcases List.mem_append.1 hy with hy | hy
    · exact hz y hy
    · rw [List.mem_singleton] at hy; omega) (by omega) hx (by rw [List.length_append]; omega), pre_append (by omega), pre_append (by omega)]
  exact h1.2
/-- over all parts each index is picked as often as its weight says -/
theorem picks_all {l : List Int} (hz : ∀ x ∈ l, 0 ≤ x) {A : Nat} (hA : (A : Int) = l.sum) : tally (fun p : Nat => place l 1 (p : Int)) l.length A = l := by
  apply List.ext_getElem?
  intro i
  by_cases h : i < l.length
  · rw [tally_get h]
    obtain ⟨y, hy⟩ : ∃ y, l[i]? = some y := ⟨_, List.getElem?_eq_getElem h⟩
    rw [hy]
    have p0 := pre_nonneg hz i
    have p1 := pre_succ hy
    have p2 := pre_le hz (i + 1)
    have p3 := hz y (List.mem_of_getElem? hy)
    rw [countP_between (a := (pre l i).toNat) (b := (pre l (i + 1)).toNat) (by omega) (by omega)]
    · congr 1
      omega
    · intro j hj
      rw [beq_iff_eq, place_iff hz (by omega) (by omega) h]
      omega
  · rw [List.getElem?_eq_none (by rw [tally_len]; omega), List.getElem?_eq_none (by omega)]
end Cum
end Go.Proofs.Yteddoccgbebbeab
