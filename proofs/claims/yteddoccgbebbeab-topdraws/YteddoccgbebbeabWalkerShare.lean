/- Walker's table: it is a table, and each index has its share. Mathematics alone. -/
import Derived.Test.YteddoccgbebbeabShareMath
import Derived.Test.YteddoccgbebbeabAliasSum
import Derived.Test.YteddoccgbebbeabWalkerMath
namespace Go.Proofs.Yteddoccgbebbeab
namespace Walker

theorem share_step {A : Int} {O R : List Int} {n k j m : Nat} {o y : Int} (ho : O[k]? = some o) (hr : R[k]? = some (j : Int)) (hm : (sharesTo A O R n k)[m]? = some y) :
    (sharesTo A O R n (k + 1))[m]? = some (y + (if k = m then o else 0) + (if j = m then A - o else 0)) := by
  have hml := (List.getElem?_eq_some_iff.1 hm).1
  rw [sharesTo, List.getD_eq_getElem?_getD, List.getD_eq_getElem?_getD, ho, hr]
  show (addAt (addAt (sharesTo A O R n k) k o) j (A - o))[m]? = _
  have h1 : (addAt (sharesTo A O R n k) k o)[m]? = some (y + (if k = m then o else 0)) := by
    by_cases e : k = m
    · subst e
      rw [addAt_get o hm, List.getElem?_set_self hml, if_pos rfl]
    · unfold addAt
      rw [List.getElem?_set_ne e, hm, if_neg e, Int.add_zero]
  have hml2 : m < (addAt (sharesTo A O R n k) k o).length := by rw [addAt_len]; exact hml
  by_cases e : j = m
  · subst e
    rw [addAt_get (A - o) h1, List.getElem?_set_self hml2, if_pos rfl]
  · unfold addAt at h1 ⊢
    rw [List.getElem?_set_ne e, h1, if_neg e, Int.add_zero]
theorem share_at {A : Int} {s : St} {n j : Nat} (hj : j < n) (hO : s.own.length = n) (hR : s.rest.length = n) (h0 : ∀ i, i < n → 0 ≤ g s.rest i) : ∀ k, k ≤ n → (sharesTo A s.own s.rest n k)[j]? = some (sumTo (cont A s j) k)
  | 0, _ => by simp [sharesTo, sumTo, hj]
  | k + 1, hk => by
    have ih := share_at (A := A) hj hO hR h0 k (by omega)
    obtain ⟨q, hq⟩ := Int.eq_ofNat_of_zero_le (h0 k (by omega))
    have hr : s.rest[k]? = some (q : Int) := by rw [← hq]; exact get_g (by omega)
    rw [share_step (get_g (by omega)) hr ih, sumTo]
    congr 1
    unfold cont
    rw [hq]
    by_cases e : q = j
    · rw [if_pos e, if_pos (show (q : Int) = (j : Int) by omega)]; omega
    · rw [if_neg e, if_neg (show ¬ (q : Int) = (j : Int) by omega)]; omega
theorem left_all {l : List Int} {A : Int} {s : St} (h : Inv l A s) (hl : s.low = []) : ∀ i ∈ s.act, g s.left i = A := by
  intro i hi
  refine all_eq (L := s.act.map (g s.left)) (fun x hx => ?_) (by rw [List.length_map]; exact h.sum) _ (List.mem_map.2 ⟨i, hi, rfl⟩)
  obtain ⟨q, hq, rfl⟩ := List.mem_map.1 hx
  unfold St.act at hq
  rw [hl, List.nil_append] at hq
  exact (h.high q hq).1
theorem share_all {l : List Int} {A : Int} {s : St} (h : Inv l A s) (hl : s.low = []) {j : Nat} (hj : j < l.length) : sumTo (cont A s j) l.length = g l j * l.length := by
  rw [← h.share j hj]
  by_cases e : j ∈ s.act
  · rw [if_pos e, left_all h hl j e, sumTo_one (f := fun i => if i ∈ s.act then 0 else cont A s j i) (c := j) l.length hj]
    · show dealt A s l.length j + _ = _
      rw [if_pos e]
      unfold cont
      rw [(h.open_ j e).1, (h.open_ j e).2, if_pos rfl, if_pos rfl]
      omega
    · intro i hi hne
      by_cases e2 : i ∈ s.act
      · rw [if_pos e2]
        unfold cont
        rw [(h.open_ i e2).2, if_neg hne, if_neg (by omega)]; rfl
      · rw [if_neg e2]
  · rw [if_neg e, Int.add_zero]
    refine sumTo_same l.length (fun i hi => ?_)
    by_cases e2 : i ∈ s.act
    · have hne : i ≠ j := fun h => e (h ▸ e2)
      rw [if_pos e2]
      unfold cont
      rw [(h.open_ i e2).2, if_neg hne, if_neg (by omega)]; rfl
    · rw [if_neg e2]
/-- what stands in each column of the table -/
theorem table_cols {l : List Int} (hE : weightsE l = 0) : ∀ i, i < l.length → (0 ≤ g (table l).own i ∧ g (table l).own i ≤ l.sum) ∧ (0 ≤ g (table l).rest i ∧ g (table l).rest i < (l.length : Int)) ∧ (g (table l).own i = l.sum ↔ g (table l).rest i = (i : Int)) := by
  obtain ⟨h40, hl, hs⟩ := weightsE_zero hE
  obtain ⟨hI, hlo⟩ := table_inv hl h40
  have hb := (sum_bd hl).1
  intro i hi
  by_cases e : i ∈ (table l).act
  · obtain ⟨h1, h2⟩ := hI.open_ i e
    rw [h1, h2]
    refine ⟨⟨hb, Int.le_refl _⟩, by omega, by simp⟩
  · obtain ⟨h1, h2, h3⟩ := hI.done i hi e
    exact ⟨by omega, h2, ⟨fun h => by omega, fun h => absurd h h3⟩⟩
theorem table_lens {l : List Int} (hE : weightsE l = 0) : (table l).own.length = l.length ∧ (table l).rest.length = l.length := by
  obtain ⟨h40, hl, hs⟩ := weightsE_zero hE
  exact ⟨(table_inv hl h40).1.lo, (table_inv hl h40).1.lr⟩
theorem table_ok {l : List Int} (hE : weightsE l = 0) : aliasE l.sum (table l).own (table l).rest = 0 := by
  obtain ⟨h40, hl, hs⟩ := weightsE_zero hE
  obtain ⟨l1, l2⟩ := table_lens hE
  have hb := sum_bd hl
  have hn : l.length ≠ 0 := fun h => hs (by rw [List.length_eq_zero_iff.1 h]; rfl)
  unfold aliasE
  rw [l1, l2, if_neg (by omega), if_neg (by omega), if_neg (by omega), if_pos]
  refine (colsB_iff _ _ (by omega)).2 (fun i o r ho hr => ?_)
  have hi : i < l.length := by have := (List.getElem?_eq_some_iff.1 ho).1; omega
  obtain ⟨h1, h2, _⟩ := table_cols hE i hi
  rw [g_some ho] at h1
  rw [g_some hr] at h2
  exact ⟨h1, h2⟩
theorem table_share {l : List Int} (hE : weightsE l = 0) {j : Nat} (hj : j < l.length) : (sharesTo l.sum (table l).own (table l).rest l.length l.length)[j]? = some (g l j * l.length) := by
  obtain ⟨h40, hl, hs⟩ := weightsE_zero hE
  obtain ⟨hI, hlo⟩ := table_inv hl h40
  rw [share_at hj hI.lo hI.lr (fun i hi => (table_cols hE i hi).2.1.1) _ (Nat.le_refl _), share_all hI hlo hj]
end Walker
end Go.Proofs.Yteddoccgbebbeab
