/- How many came, as Many tells it. Mathematics alone. -/
import Derived.Test.YtfgcmlgdgmcffaaBottomMuch
import Derived.Test.YtfgcmlgdgmcffaaBottomFill
namespace Go.Proofs.Ytfgcmlgdgmcffaa
open Go.ChangeShapes Go.WideShapes Go.ChangeAt Go.RowKit
namespace Least

theorem many_law {k : Nat} {l : List Int} (k1 : 1 ≤ k) (h : ∀ y ∈ l, 0 ≤ y ∧ y < 72057594037927936) :
    (manyE k (T k l) = 6 ∧ k = 1 ∧ 0 ∈ l) ∨ (manyE k (T k l) = 0 ∧ (uniq l).length < k ∧ manyR k (T k l) = ((uniq l).length : Int)) ∨ (manyE k (T k l) = 0 ∧ k ≤ (uniq l).length ∧ (k : Int) - 1 ≤ manyR k (T k l)) := by
  have hT := T_len k l
  by_cases hs : (uniq l).length < k
  · obtain ⟨e1, e2⟩ := many_few (k := k) (L := T k l) (by omega)
    refine Or.inr (Or.inl ⟨e2, hs, ?_⟩)
    rw [e1, hT]
    omega
  · have hlen : (T k l).length = k := by omega
    obtain ⟨g, hg⟩ : ∃ g, (T k l)[k - 1]? = some g := ⟨_, List.getElem?_eq_getElem (by omega)⟩
    obtain ⟨e1, e2⟩ := many_full (k := k) (L := T k l) (by omega) hg
    have hb := h g (T_mem (List.mem_of_getElem? hg))
    by_cases h0 : g = 0
    · subst h0
      rw [if_pos rfl] at e2
      refine Or.inl ⟨e2, ?_, T_mem (List.mem_of_getElem? hg)⟩
      by_cases hk : k = 1
      · exact hk
      · exfalso
        obtain ⟨y, hy⟩ : ∃ y, (T k l)[0]? = some y := ⟨_, List.getElem?_eq_getElem (by omega)⟩
        obtain ⟨l1, q1⟩ := List.getElem?_eq_some_iff.1 hy
        obtain ⟨l2, q2⟩ := List.getElem?_eq_some_iff.1 hg
        have h1 := List.pairwise_iff_getElem.1 (T_up k l) 0 (k - 1) l1 l2 (by omega)
        have h2 := h y (T_mem (List.mem_of_getElem? hy))
        omega
    · rw [if_neg h0] at e2
      refine Or.inr (Or.inr ⟨e2, by omega, ?_⟩)
      rw [e1, Int.tdiv_eq_ediv_of_nonneg (by omega)]
      rw [Int.le_ediv_iff_mul_le (by omega)]
      exact Int.mul_le_mul_of_nonneg_left (by omega) (by omega)
theorem keys_len {ks l : List Int} (hn : ks.Nodup) (hm : ∀ z, z ∈ ks ↔ z ∈ l) : ks.length = (uniq l).length := by
  rw [← sort_nodup hn hm, sortI_len]
end Least
end Go.Proofs.Ytfgcmlgdgmcffaa
