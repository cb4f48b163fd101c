/- What comes often, by a few counters: what is added, what is taken away, what is kept of all that came (Misra, Gries; Agarwal). Mathematics alone. -/
import Derived.Test.YtffgoekdjcempaaGreatFewMath
import Derived.Test.YtffgoekdjcempaaGreatIntSum
namespace Go.Proofs.YtffgoekdjcempaaGreat
namespace Few

/-- all that counters hold -/
def tot (C : List (Int × Int)) : Int := (C.map (fun p => p.2)).sum
theorem tot_nil : tot [] = 0 := rfl
theorem tot_cons (p : Int × Int) (C : List (Int × Int)) : tot (p :: C) = p.2 + tot C := by simp [tot]
theorem tot_append (C D : List (Int × Int)) : tot (C ++ D) = tot C + tot D := by simp [tot]
theorem tot_pos : ∀ {C : List (Int × Int)}, (∀ c ∈ C, 0 ≤ c.2) → 0 ≤ tot C ∧ ∀ c ∈ C, c.2 ≤ tot C
  | [], _ => ⟨Int.le_refl _, by simp⟩
  | d :: C, h => by
    obtain ⟨h1, h2⟩ := tot_pos (C := C) (fun c hc => h c (by simp [hc]))
    have h3 := h d (by simp)
    rw [tot_cons]
    refine ⟨by omega, fun c hc => ?_⟩
    rcases List.mem_cons.1 hc with rfl | hc
    · omega
    · have := h2 c hc; omega
/-- a counter that is added -/
def addC : List (Int × Int) → Int × Int → List (Int × Int)
  | [], c => [c]
  | d :: C, c => if c.1 < d.1 then c :: d :: C else if c.1 = d.1 then (d.1, d.2 + c.2) :: C else d :: addC C c
def addAll (C D : List (Int × Int)) : List (Int × Int) := D.foldl addC C

theorem addC_oft (x : Int) : ∀ (C : List (Int × Int)) (c : Int × Int), oft x (addC C c) = oft x C + (if c.1 = x then c.2 else 0)
  | [], c => by simp [addC, oft]
  | d :: C, c => by
    rw [addC]
    split
    · rw [oft, oft]; omega
    split
    · rename_i h1 h2
      rw [oft, oft]
      simp only
      by_cases h : d.1 = x
      · rw [if_pos h, if_pos h, if_pos (by omega)]; omega
      · rw [if_neg h, if_neg h, if_neg (by omega)]; omega
    · rw [oft, oft, addC_oft x C c]; omega
theorem addC_tot : ∀ (C : List (Int × Int)) (c : Int × Int), tot (addC C c) = tot C + c.2
  | [], c => by simp [addC, tot]
  | d :: C, c => by
    rw [addC]
    split
    · rw [tot_cons, tot_cons]; omega
    split
    · rw [tot_cons, tot_cons]; simp only; omega
    · rw [tot_cons, tot_cons, addC_tot C c]; omega
theorem addC_mem : ∀ {C : List (Int × Int)} {c d : Int × Int}, d ∈ addC C c → d ∈ C ∨ d = c ∨ ∃ e ∈ C, e.1 = c.1 ∧ d = (c.1, e.2 + c.2)
  | [], c, d, h => by simp [addC] at h; exact Or.inr (Or.inl h)
  | e :: C, c, d, h => by
    rw [addC] at h
    split at h
    · rcases List.mem_cons.1 h with h | h
      · exact Or.inr (Or.inl h)
      · exact Or.inl h
    split at h
    · rename_i h1 h2
      rcases List.mem_cons.1 h with h | h
      · exact Or.inr (Or.inr ⟨e, by simp, h2.symm, by rw [h, h2]⟩)
      · exact Or.inl (by simp [h])
    · rcases List.mem_cons.1 h with h | h
      · exact Or.inl (by simp [h])
      · rcases addC_mem h with h | h | ⟨f, hf, h⟩
        · exact Or.inl (by simp [h])
        · exact Or.inr (Or.inl h)
        · exact Or.inr (Or.inr ⟨f, by simp [hf], h⟩)
theorem addC_key {C : List (Int × Int)} {c d : Int × Int} (h : d ∈ addC C c) : d.1 = c.1 ∨ ∃ e ∈ C, e.1 = d.1 := by
  rcases addC_mem h with h | h | ⟨e, he, h1, h2⟩
  · exact Or.inr ⟨d, h, rfl⟩
  · exact Or.inl (by rw [h])
  · exact Or.inl (by rw [h2])
theorem addC_num {C : List (Int × Int)} {c : Int × Int} (hC : ∀ d ∈ C, 1 ≤ d.2) (hc : 1 ≤ c.2) : ∀ d ∈ addC C c, 1 ≤ d.2 := by
  intro d h
  rcases addC_mem h with h | h | ⟨e, he, h1, h2⟩
  · exact hC d h
  · rw [h]; exact hc
  · have := hC e he; rw [h2]; simp only; omega
theorem addC_ord : ∀ {C : List (Int × Int)} {c : Int × Int}, C.Pairwise (fun a b => a.1 < b.1) → (addC C c).Pairwise (fun a b => a.1 < b.1)
  | [], c, _ => by rw [addC]; exact List.pairwise_singleton _ _
  | d :: C, c, h => by
    obtain ⟨h1, h2⟩ := List.pairwise_cons.1 h
    rw [addC]
    split
    · rename_i hlt
      refine List.pairwise_cons.2 ⟨fun e he => ?_, h⟩
      rcases List.mem_cons.1 he with rfl | he
      · exact hlt
      · exact Int.lt_trans hlt (h1 e he)
    split
    · exact List.pairwise_cons.2 ⟨h1, h2⟩
    · refine List.pairwise_cons.2 ⟨fun e he => ?_, addC_ord h2⟩
      rcases addC_key he with he | ⟨f, hf, he⟩
      · omega
      · rw [← he]; exact h1 f hf
theorem addC_len : ∀ (C : List (Int × Int)) (c : Int × Int), (addC C c).length ≤ C.length + 1
  | [], c => by simp [addC]
  | d :: C, c => by
    rw [addC]
    split
    · simp
    split
    · simp
    · have := addC_len C c; simp; omega
/-- where its key stands already -/
theorem addC_at : ∀ {C : List (Int × Int)} {i : Nat} {key m n : Int}, C[i]? = some (key, m) → (∀ j d, j < i → C[j]? = some d → d.1 < key) → addC C (key, n) = C.set i (key, m + n)
  | [], i, _, _, _, h, _ => by simp at h
  | d :: C, 0, key, m, n, h, _ => by
    simp at h
    subst h
    rw [addC, if_neg (by simp), if_pos rfl]; rfl
  | d :: C, i + 1, key, m, n, h, hj => by
    have h0 := hj 0 d (by omega) rfl
    rw [addC, if_neg (by simp only; omega), if_neg (by simp only; omega), List.set_cons_succ, addC_at (i := i) (by simpa using h) (fun j e hji he => hj (j + 1) e (by omega) (by simpa using he))]
/-- where it stands in no counter -/
theorem addC_new : ∀ {C : List (Int × Int)} {i : Nat} {c : Int × Int}, i ≤ C.length → (∀ j d, j < i → C[j]? = some d → d.1 < c.1) → (∀ d, C[i]? = some d → c.1 < d.1) → addC C c = C.take i ++ c :: C.drop i
  | [], i, c, _, _, _ => by simp [addC]
  | d :: C, 0, c, _, _, h => by
    rw [addC, if_pos (h d rfl)]; rfl
  | d :: C, i + 1, c, hi, hj, h => by
    have h0 := hj 0 d (by omega) rfl
    rw [addC, if_neg (by omega), if_neg (by omega), List.take_succ_cons, List.drop_succ_cons, List.cons_append, addC_new (i := i) (by simpa using hi) (fun j e hji he => hj (j + 1) e (by omega) (by simpa using he)) (fun e he => h e (by simpa using he))]
theorem addAll_oft (x : Int) : ∀ (D C : List (Int × Int)), oft x (addAll C D) = oft x C + oft x D
  | [], C => by simp [addAll, oft]
  | d :: D, C => by
    have := addAll_oft x D (addC C d)
    unfold addAll at this ⊢
    rw [List.foldl_cons, this, addC_oft, oft]; omega
theorem addAll_tot : ∀ (D C : List (Int × Int)), tot (addAll C D) = tot C + tot D
  | [], C => by simp [addAll, tot]
  | d :: D, C => by
    have := addAll_tot D (addC C d)
    unfold addAll at this ⊢
    rw [List.foldl_cons, this, addC_tot, tot_cons]; omega
theorem addAll_ord : ∀ {D C : List (Int × Int)}, C.Pairwise (fun a b => a.1 < b.1) → (addAll C D).Pairwise (fun a b => a.1 < b.1)
  | [], _, h => h
  | d :: D, C, h => addAll_ord (D := D) (addC_ord (c := d) h)
theorem addAll_num : ∀ {D C : List (Int × Int)}, (∀ d ∈ C, 1 ≤ d.2) → (∀ d ∈ D, 1 ≤ d.2) → ∀ d ∈ addAll C D, 1 ≤ d.2
  | [], _, h, _ => h
  | e :: D, C, h, hD => addAll_num (D := D) (addC_num h (hD e (by simp))) (fun d hd => hD d (by simp [hd]))
theorem addAll_key : ∀ {D C : List (Int × Int)} {d : Int × Int}, d ∈ addAll C D → (∃ e ∈ C, e.1 = d.1) ∨ ∃ e ∈ D, e.1 = d.1
  | [], C, d, h => Or.inl ⟨d, h, rfl⟩
  | e :: D, C, d, h => by
    rcases addAll_key (D := D) (C := addC C e) h with ⟨f, hf, h1⟩ | ⟨f, hf, h1⟩
    · rcases addC_key hf with h2 | ⟨g, hg, h2⟩
      · exact Or.inr ⟨e, by simp, by rw [← h2, h1]⟩
      · exact Or.inl ⟨g, hg, by rw [h2, h1]⟩
    · exact Or.inr ⟨f, by simp [hf], h1⟩
theorem addAll_len : ∀ (D C : List (Int × Int)), (addAll C D).length ≤ C.length + D.length
  | [], C => by simp [addAll]
  | d :: D, C => by
    have h1 := addAll_len D (addC C d)
    have h2 := addC_len C d
    unfold addAll at h1 ⊢
    rw [List.foldl_cons, List.length_cons]; omega
theorem addAll_snoc {C D : List (Int × Int)} {k : Nat} {c : Int × Int} (h : D[k]? = some c) : addAll C (D.take (k + 1)) = addC (addAll C (D.take k)) c := by
  unfold addAll
  rw [List.take_add_one, h, Option.toList_some, List.foldl_append]; rfl

/-- what is left of counters when a number is taken from each -/
def lowC (e : Int) (C : List (Int × Int)) : List (Int × Int) := (C.filter (fun c => decide (e < c.2))).map (fun c => (c.1, c.2 - e))
theorem lowC_snoc {e : Int} {C : List (Int × Int)} {k : Nat} {c : Int × Int} (h : C[k]? = some c) : lowC e (C.take (k + 1)) = if e < c.2 then lowC e (C.take k) ++ [(c.1, c.2 - e)] else lowC e (C.take k) := by
  unfold lowC
  rw [List.take_add_one, h, Option.toList_some, List.filter_append, List.map_append]
  split
  · rename_i hc
    rw [List.filter_cons_of_pos (by simpa using hc)]; rfl
  · rename_i hc
    rw [List.filter_cons_of_neg (by simpa using hc)]; simp
theorem lowC_cons (e : Int) (c : Int × Int) (C : List (Int × Int)) : lowC e (c :: C) = if e < c.2 then (c.1, c.2 - e) :: lowC e C else lowC e C := by
  unfold lowC
  split
  · rename_i hc
    rw [List.filter_cons_of_pos (by simpa using hc)]; rfl
  · rename_i hc
    rw [List.filter_cons_of_neg (by simpa using hc)]
theorem lowC_mem {e : Int} {C : List (Int × Int)} {d : Int × Int} (h : d ∈ lowC e C) : ∃ c ∈ C, c.1 = d.1 ∧ d.2 = c.2 - e ∧ e < c.2 := by
  obtain ⟨c, hc, rfl⟩ := List.mem_map.1 h
  obtain ⟨h1, h2⟩ := List.mem_filter.1 hc
  exact ⟨c, h1, rfl, rfl, by simpa using h2⟩
theorem lowC_ord {e : Int} {C : List (Int × Int)} (h : C.Pairwise (fun a b => a.1 < b.1)) : (lowC e C).Pairwise (fun a b => a.1 < b.1) := by
  unfold lowC
  rw [List.pairwise_map]
  exact h.sublist List.filter_sublist
theorem lowC_zero {C : List (Int × Int)} (h : ∀ c ∈ C, 1 ≤ c.2) : lowC 0 C = C := by
  induction C with
  | nil => rfl
  | cons c C ih =>
    have h1 := h c (by simp)
    rw [lowC_cons, if_pos (by omega), ih (fun d hd => h d (by simp [hd])), Int.sub_zero]
theorem oft_none {x : Int} : ∀ {C : List (Int × Int)}, (∀ c ∈ C, c.1 ≠ x) → oft x C = 0
  | [], _ => rfl
  | c :: C, h => by
    rw [oft, if_neg (h c (by simp)), oft_none (fun d hd => h d (by simp [hd])), Int.zero_add]
/-- what a key's counter holds, of counters whose keys rise -/
theorem oft_of {C : List (Int × Int)} (h : C.Pairwise (fun a b => a.1 < b.1)) {c : Int × Int} (hc : c ∈ C) : oft c.1 C = c.2 := by
  induction C with
  | nil => cases hc
  | cons d C ih =>
    obtain ⟨h1, h2⟩ := List.pairwise_cons.1 h
    rw [oft]
    rcases List.mem_cons.1 hc with rfl | hc
    · rw [if_pos rfl, oft_none (fun e he => by have := h1 e he; omega)]; omega
    · rw [if_neg (by have := h1 c hc; omega), ih h2 hc]; omega
theorem oft_pos {C : List (Int × Int)} (h : ∀ c ∈ C, 0 ≤ c.2) (x : Int) : 0 ≤ oft x C := by
  induction C with
  | nil => exact Int.le_refl _
  | cons d C ih =>
    have h1 := h d (by simp)
    have h2 := ih (fun c hc => h c (by simp [hc]))
    rw [oft]; split <;> omega
theorem oft_has {C : List (Int × Int)} {x : Int} (h : oft x C ≠ 0) : ∃ c ∈ C, c.1 = x := by
  rcases Decidable.em (∃ c ∈ C, c.1 = x) with h1 | h1
  · exact h1
  · exact absurd (oft_none (fun c hc e => h1 ⟨c, hc, e⟩)) h
theorem lowC_oft {e : Int} (he : 0 ≤ e) {C : List (Int × Int)} (h : C.Pairwise (fun a b => a.1 < b.1)) (hn : ∀ c ∈ C, 0 ≤ c.2) (x : Int) : oft x (lowC e C) ≤ oft x C ∧ oft x C ≤ oft x (lowC e C) + e := by
  induction C with
  | nil => exact ⟨Int.le_refl _, by simp [lowC, oft]; exact he⟩
  | cons c C ih =>
    obtain ⟨h1, h2⟩ := List.pairwise_cons.1 h
    obtain ⟨i1, i2⟩ := ih h2 (fun d hd => hn d (by simp [hd]))
    have h3 := hn c (by simp)
    rw [lowC_cons]
    by_cases hx : c.1 = x
    · have z1 : oft x C = 0 := oft_none (fun d hd => by have := h1 d hd; omega)
      have z2 : oft x (lowC e C) = 0 := oft_none (fun d hd => by
        obtain ⟨f, hf, e1, _⟩ := lowC_mem hd
        have := h1 f hf; omega)
      rw [oft, if_pos hx, z1]
      split
      · rw [oft, z2]; simp only; rw [if_pos hx]; omega
      · rw [z2]; omega
    · rw [oft, if_neg hx]
      split
      · rw [oft]; simp only; rw [if_neg hx]; omega
      · omega

/-! ### the excess -/
def srtC (l : List Int) : List Int := l.mergeSort fun x y => decide (x ≤ y)
theorem srtC_perm (l : List Int) : (srtC l).Perm l := List.mergeSort_perm _ _
theorem srtC_len (l : List Int) : (srtC l).length = l.length := List.length_mergeSort _
theorem srtC_ord (l : List Int) : (srtC l).Pairwise (· ≤ ·) := by
  have := List.pairwise_mergeSort (le := fun x y : Int => decide (x ≤ y)) (fun a b c h1 h2 => by simp at *; omega) (fun a b => by simp; omega) l
  exact this.imp (fun h => by simpa using h)
def nums (C : List (Int × Int)) : List Int := C.map (fun c => c.2)
/-- the number behind the k greatest -/
def exC (C : List (Int × Int)) (k : Nat) : Int := if C.length ≤ k then 0 else (srtC (nums C)).getD (C.length - 1 - k) 0
/-- what is left of numbers -/
def cutL (e : Int) : List Int → Int
  | [] => 0
  | n :: l => (if e < n then n - e else 0) + cutL e l
theorem cutL_perm {e : Int} {l m : List Int} (h : l.Perm m) : cutL e l = cutL e m := by
  induction h with
  | nil => rfl
  | cons x _ ih => rw [cutL, cutL, ih]
  | swap x y l => rw [cutL, cutL, cutL, cutL]; omega
  | trans _ _ h1 h2 => rw [h1, h2]
theorem sum_perm {l m : List Int} (h : l.Perm m) : l.sum = m.sum := by
  induction h with
  | nil => rfl
  | cons x _ ih => rw [List.sum_cons, List.sum_cons, ih]
  | swap x y l => rw [List.sum_cons, List.sum_cons, List.sum_cons, List.sum_cons]; omega
  | trans _ _ h1 h2 => rw [h1, h2]
theorem cutL_append (e : Int) : ∀ l m : List Int, cutL e (l ++ m) = cutL e l + cutL e m
  | [], m => by simp [cutL]
  | n :: l, m => by rw [List.cons_append, cutL, cutL, cutL_append e l m]; omega
theorem cutL_le {e : Int} (he : 0 ≤ e) : ∀ {l : List Int}, (∀ n ∈ l, 0 ≤ n) → cutL e l ≤ l.sum
  | [], _ => Int.le_refl _
  | n :: l, h => by
    have h1 := h n (by simp)
    have h2 := cutL_le he (l := l) (fun m hm => h m (by simp [hm]))
    rw [cutL, List.sum_cons]; split <;> omega
theorem cutL_all {e : Int} : ∀ {l : List Int}, (∀ n ∈ l, e ≤ n) → cutL e l + e * (l.length : Int) = l.sum
  | [], _ => by simp [cutL]
  | n :: l, h => by
    have h1 := h n (by simp)
    have h2 := cutL_all (l := l) (fun m hm => h m (by simp [hm]))
    rw [cutL, List.sum_cons, List.length_cons, Int.natCast_add, Int.mul_add]
    split <;> simp <;> omega
theorem lowC_tot (e : Int) : ∀ C : List (Int × Int), tot (lowC e C) = cutL e (nums C)
  | [] => rfl
  | c :: C => by
    rw [lowC_cons, nums, List.map_cons, cutL]
    split
    · rw [tot_cons, lowC_tot e C]; rfl
    · rw [lowC_tot e C]; simp [nums]
theorem lowC_length (e : Int) : ∀ C : List (Int × Int), (lowC e C).length = (nums C).countP (fun n => decide (e < n))
  | [] => rfl
  | c :: C => by
    rw [lowC_cons, nums, List.map_cons, List.countP_cons]
    split
    · rename_i h; rw [List.length_cons, lowC_length e C, if_pos (by simpa using h)]; rfl
    · rename_i h; rw [lowC_length e C, if_neg (by simpa using h)]; rfl
theorem srt_at {l : List Int} {i : Nat} (hi : i < l.length) : ∃ e, (srtC l)[i]? = some e ∧ e ∈ l ∧ (∀ n ∈ (srtC l).drop i, e ≤ n) ∧ (∀ n ∈ (srtC l).take (i + 1), n ≤ e) := by
  have hi2 : i < (srtC l).length := by rw [srtC_len]; exact hi
  have hs := srtC_ord l
  refine ⟨(srtC l)[i], List.getElem?_eq_getElem hi2, (srtC_perm l).mem_iff.1 (List.getElem_mem hi2), fun n hn => ?_, fun n hn => ?_⟩
  · obtain ⟨j, hj, rfl⟩ := List.mem_iff_getElem.1 hn
    rw [List.getElem_drop]
    rw [List.length_drop] at hj
    rcases Nat.eq_zero_or_pos j with rfl | h
    · exact Int.le_refl _
    · exact List.pairwise_iff_getElem.1 hs _ _ hi2 (by omega) (by omega)
  · obtain ⟨j, hj, rfl⟩ := List.mem_iff_getElem.1 hn
    rw [List.getElem_take]
    rw [List.length_take] at hj
    rcases Nat.lt_or_ge j i with h | h
    · exact List.pairwise_iff_getElem.1 hs _ _ (by omega) hi2 h
    · have : j = i := by omega
      subst this
      exact Int.le_refl _
/-- Misra, Gries: what the excess takes away -/
theorem exC_all {C : List (Int × Int)} {k : Nat} (h : ∀ c ∈ C, 1 ≤ c.2) : 0 ≤ exC C k ∧ exC C k * ((k : Int) + 1) + tot (lowC (exC C k) C) ≤ tot C ∧ (lowC (exC C k) C).length ≤ k ∧ (C.length ≤ k → exC C k = 0) := by
  by_cases hk : C.length ≤ k
  · have e0 : exC C k = 0 := if_pos hk
    rw [e0, lowC_zero h]
    exact ⟨Int.le_refl _, by omega, hk, fun _ => rfl⟩
  · have hl : (nums C).length = C.length := by simp [nums]
    obtain ⟨e, he, hm, hd, ht⟩ := srt_at (l := nums C) (i := C.length - 1 - k) (by rw [hl]; omega)
    have e0 : exC C k = e := by
      unfold exC
      rw [if_neg hk, List.getD_eq_getElem?_getD, he]; rfl
    have hp : ∀ n ∈ nums C, 1 ≤ n := fun n hn => by
      obtain ⟨c, hc, rfl⟩ := List.mem_map.1 hn
      exact h c hc
    have hp2 : ∀ n ∈ srtC (nums C), 1 ≤ n := fun n hn => hp n ((srtC_perm _).mem_iff.1 hn)
    have he1 := hp e hm
    rw [e0]
    have hsl : (srtC (nums C)).length = C.length := by rw [srtC_len, hl]
    refine ⟨by omega, ?_, ?_, fun hh => absurd hh hk⟩
    · have h1 := cutL_all hd
      have h2 := cutL_le (e := e) (by omega) (l := (srtC (nums C)).take (C.length - 1 - k)) (fun n hn => by have := hp2 n (List.mem_of_mem_take hn); omega)
      have h3 : tot C = (srtC (nums C)).sum := (sum_perm (srtC_perm (nums C))).symm
      have h4 : (srtC (nums C)).sum = ((srtC (nums C)).take (C.length - 1 - k)).sum + ((srtC (nums C)).drop (C.length - 1 - k)).sum := by
        rw [← List.sum_append, List.take_append_drop]
      have h5 : cutL e (nums C) = cutL e ((srtC (nums C)).take (C.length - 1 - k)) + cutL e ((srtC (nums C)).drop (C.length - 1 - k)) := by
        rw [← cutL_append, List.take_append_drop, cutL_perm (srtC_perm (nums C))]
      have h6 : (((srtC (nums C)).drop (C.length - 1 - k)).length : Int) = (k : Int) + 1 := by
        rw [List.length_drop, hsl]; omega
      rw [h6] at h1
      rw [lowC_tot, h5, h3, h4]
      omega
    · rw [lowC_length, ← (srtC_perm (nums C)).countP_eq, ← List.take_append_drop (C.length - 1 - k + 1) (srtC (nums C)), List.countP_append]
      have h1 : ((srtC (nums C)).take (C.length - 1 - k + 1)).countP (fun n => decide (e < n)) = 0 := by
        rw [List.countP_eq_zero]
        intro n hn
        have := ht n hn
        simp; omega
      have h2 : ((srtC (nums C)).drop (C.length - 1 - k + 1)).countP (fun n => decide (e < n)) ≤ ((srtC (nums C)).drop (C.length - 1 - k + 1)).length := List.countP_le_length
      rw [List.length_drop, hsl] at h2
      omega

theorem exC_mem {C : List (Int × Int)} {k : Nat} (h : k < C.length) : exC C k ∈ nums C := by
  obtain ⟨e, he, hm, _⟩ := srt_at (l := nums C) (i := C.length - 1 - k) (by simp [nums]; omega)
  have : exC C k = e := by unfold exC; rw [if_neg (by omega), List.getD_eq_getElem?_getD, he]; rfl
  rw [this]; exact hm
theorem ex_two : exC [(5, 3), (6, 2)] 1 = 2 := by
  obtain ⟨_, h1, _, _⟩ := exC_all (C := [((5 : Int), (3 : Int)), (6, 2)]) (k := 1) (by simp)
  have hm := exC_mem (C := [((5 : Int), (3 : Int)), (6, 2)]) (k := 1) (by decide)
  have hm2 : exC [((5 : Int), (3 : Int)), (6, 2)] 1 = 3 ∨ exC [((5 : Int), (3 : Int)), (6, 2)] 1 = 2 := by simpa [nums] using hm
  rcases hm2 with h | h
  · rw [h] at h1; exact absurd h1 (by decide)
  · exact h

/-! ### what is kept of all that came -/
/-- a sketch of all that came -/
structure Near (K : Int) (A : List (Int × Int)) (L : Int) (C : List (Int × Int)) : Prop where
  good : Good K L C
  sum : L * (K + 1) + tot C ≤ tot A
  low : ∀ x, oft x C ≤ oft x A
  high : ∀ x, oft x A ≤ oft x C + L
  keys : ∀ c ∈ C, ∃ p ∈ A, p.1 = c.1
  exact_ : (∀ p ∈ A, 0 ≤ p.1 ∧ p.1 < K) → L = 0
/-- counters whose keys rise are no more than the keys that there are -/
theorem short_of {C : List (Int × Int)} (h : C.Pairwise (fun a b => a.1 < b.1)) {k : Nat} (hk : ∀ c ∈ C, 0 ≤ c.1 ∧ c.1 < (k : Int)) : C.length ≤ k := by
  have key : ∀ (C : List (Int × Int)) (m : Nat), C.Pairwise (fun a b => a.1 < b.1) → (∀ c ∈ C, (m : Int) ≤ c.1 ∧ c.1 < (k : Int)) → m ≤ k → C.length + m ≤ k := by
    intro C
    induction C with
    | nil => intro m _ _ h; simpa using h
    | cons c C ih =>
      intro m h hk hm
      obtain ⟨h1, h2⟩ := List.pairwise_cons.1 h
      have h3 := hk c (by simp)
      have := ih (m + 1) h2 (fun d hd => ⟨by have := h1 d hd; omega, (hk d (by simp [hd])).2⟩) (by omega)
      rw [List.length_cons]; omega
  have := key C 0 h (by simpa using hk) (by omega)
  omega
theorem near_nil {K : Int} (h1 : 1 ≤ K) (h2 : K ≤ 16) : Near K [] 0 [] :=
  ⟨⟨h1, h2, by omega, by omega, by simp; omega, by simp, List.Pairwise.nil⟩, by simp [tot], fun x => Int.le_refl _, fun x => by simp [oft], by simp, fun _ => rfl⟩
/-- counters that are too many, cut down -/
theorem near_cut {K L : Int} {A D : List (Int × Int)} (k1 : 1 ≤ K) (k2 : K ≤ 16) (hL : 0 ≤ L) (hn : ∀ c ∈ D, 1 ≤ c.2) (ho : D.Pairwise (fun a b => a.1 < b.1)) (hs : L * (K + 1) + tot D ≤ tot A) (hA : tot A ≤ 1000000000000)
    (hlo : ∀ x, oft x D ≤ oft x A) (hhi : ∀ x, oft x A ≤ oft x D + L) (hk : ∀ c ∈ D, ∃ p ∈ A, p.1 = c.1) (hx : (∀ p ∈ A, 0 ≤ p.1 ∧ p.1 < K) → L = 0) : Near K A (L + exC D K.toNat) (lowC (exC D K.toNat) D) := by
  obtain ⟨e0, e1, e2, e3⟩ := exC_all (C := D) (k := K.toNat) hn
  have hxx : (∀ p ∈ A, 0 ≤ p.1 ∧ p.1 < K) → L + exC D K.toNat = 0 := fun h => by
    rw [hx h, e3 (short_of ho (fun c hc => by
      obtain ⟨p, hp, h2⟩ := hk c hc
      have := h p hp
      omega))]; rfl
  have hD := tot_pos (C := D) (fun c hc => by have := hn c hc; omega)
  have hlow : ∀ c ∈ lowC (exC D K.toNat) D, 1 ≤ c.2 ∧ c.2 ≤ tot D := fun c hc => by
    obtain ⟨d, hd, _, h2, h3⟩ := lowC_mem hc
    have := hD.2 d hd
    omega
  have ht := tot_pos (C := lowC (exC D K.toNat) D) (fun c hc => by have := (hlow c hc).1; omega)
  have hKn : ((K.toNat : Nat) : Int) = K := by omega
  rw [hKn] at e1
  have hlo2 := lowC_oft e0 ho (fun c hc => by have := hn c hc; omega)
  generalize exC D K.toNat = e at *
  have hm : (L + e) * (K + 1) = L * (K + 1) + e * (K + 1) := Int.add_mul _ _ _
  have hm2 : (L + e) * 2 ≤ (L + e) * (K + 1) := Int.mul_le_mul_of_nonneg_left (by omega) (by omega)
  have hm3 : 0 ≤ L * (K + 1) := Int.mul_nonneg hL (by omega)
  refine ⟨⟨k1, k2, by omega, by omega, by omega, fun c hc => ?_, lowC_ord ho⟩, by omega, fun x => ?_, fun x => ?_, fun c hc => ?_, hxx⟩
  · have := hlow c hc
    omega
  · have := hlo x; have := (hlo2 x).1; omega
  · have := hhi x; have := (hlo2 x).2; omega
  · obtain ⟨d, hd, h1, _⟩ := lowC_mem hc
    obtain ⟨p, hp, h2⟩ := hk d hd
    exact ⟨p, hp, by rw [h2, h1]⟩
/-- one more -/
theorem near_put {K L x n : Int} {A C : List (Int × Int)} (h : Near K A L C) (hn : 1 ≤ n) (hA : tot A + n ≤ 1000000000000) : Near K (A ++ [(x, n)]) (L + exC (addC C (x, n)) K.toNat) (lowC (exC (addC C (x, n)) K.toNat) (addC C (x, n))) := by
  have e1 : ∀ z, oft z (A ++ [(x, n)]) = oft z A + (if x = z then n else 0) := fun z => by rw [oft_append, oft, oft]; omega
  have e2 : tot (A ++ [(x, n)]) = tot A + n := by rw [tot_append, tot_cons, tot_nil]; simp
  refine near_cut h.good.k1 h.good.k2 h.good.l1 (addC_num (fun d hd => (h.good.num d hd).1) hn) (addC_ord h.good.ord) ?_ (by omega) (fun z => ?_) (fun z => ?_) (fun c hc => ?_) (fun hA' => h.exact_ (fun p hp => hA' p (by simp [hp])))
  · have := h.sum; rw [addC_tot, e2]; simp only; omega
  · have := h.low z; rw [addC_oft, e1]; simp only; omega
  · have := h.high z; rw [addC_oft, e1]; simp only; omega
  · rcases addC_key hc with h1 | ⟨e, he, h1⟩
    · exact ⟨(x, n), by simp, h1.symm⟩
    · obtain ⟨p, hp, h2⟩ := h.keys e he
      exact ⟨p, by simp [hp], by rw [h2, h1]⟩
/-- two sketches in one -/
theorem near_join {K L M : Int} {A B C D : List (Int × Int)} (h : Near K A L C) (g : Near K B M D) (hA : tot A + tot B ≤ 1000000000000) : Near K (A ++ B) (L + M + exC (addAll C D) K.toNat) (lowC (exC (addAll C D) K.toNat) (addAll C D)) := by
  have e2 := tot_append A B
  refine near_cut h.good.k1 h.good.k2 (by have := h.good.l1; have := g.good.l1; omega) (addAll_num (fun d hd => (h.good.num d hd).1) (fun d hd => (g.good.num d hd).1)) (addAll_ord h.good.ord) ?_ (by omega) (fun z => ?_) (fun z => ?_) (fun c hc => ?_) (fun hA' => by rw [h.exact_ (fun p hp => hA' p (by simp [hp])), g.exact_ (fun p hp => hA' p (by simp [hp]))]; rfl)
  · have := h.sum; have := g.sum; rw [addAll_tot, e2, Int.add_mul]; omega
  · have := h.low z; have := g.low z; rw [addAll_oft, oft_append]; omega
  · have := h.high z; have := g.high z; rw [addAll_oft, oft_append]; omega
  · rcases addAll_key hc with ⟨e, he, h1⟩ | ⟨e, he, h1⟩
    · obtain ⟨p, hp, h2⟩ := h.keys e he
      exact ⟨p, by simp [hp], by rw [h2, h1]⟩
    · obtain ⟨p, hp, h2⟩ := g.keys e he
      exact ⟨p, by simp [hp], by rw [h2, h1]⟩
/-- counters whose keys rise are told by what they hold -/
theorem same_of : ∀ {C D : List (Int × Int)}, C.Pairwise (fun a b => a.1 < b.1) → D.Pairwise (fun a b => a.1 < b.1) → (∀ c ∈ C, 1 ≤ c.2) → (∀ c ∈ D, 1 ≤ c.2) → (∀ x, oft x C = oft x D) → C = D
  | [], [], _, _, _, _, _ => rfl
  | [], d :: D, _, h2, _, h4, h => by
    have h1 := oft_of h2 (c := d) (by simp)
    have h5 := h4 d (by simp)
    have := h d.1
    rw [h1] at this
    simp [oft] at this
    omega
  | c :: C, [], h1, _, h3, _, h => by
    have h2 := oft_of h1 (c := c) (by simp)
    have h5 := h3 c (by simp)
    have := h c.1
    rw [h2] at this
    simp [oft] at this
    omega
  | c :: C, d :: D, h1, h2, h3, h4, h => by
    obtain ⟨a1, a2⟩ := List.pairwise_cons.1 h1
    obtain ⟨b1, b2⟩ := List.pairwise_cons.1 h2
    have ec := oft_of h1 (c := c) (by simp)
    have ed := oft_of h2 (c := d) (by simp)
    have pc := h3 c (by simp)
    have pd := h4 d (by simp)
    have hcd : c.1 = d.1 := by
      rcases Int.lt_trichotomy c.1 d.1 with hh | hh | hh
      · exfalso
        have := h c.1
        rw [ec, oft_none (fun e he => by
          rcases List.mem_cons.1 he with rfl | he
          · omega
          · have := b1 e he; omega)] at this
        omega
      · exact hh
      · exfalso
        have := h d.1
        rw [ed, oft_none (fun e he => by
          rcases List.mem_cons.1 he with rfl | he
          · omega
          · have := a1 e he; omega)] at this
        omega
    have hcc : c = d := by
      have := h c.1
      rw [ec, hcd, ed] at this
      exact Prod.ext hcd this
    subst hcc
    refine congrArg (c :: ·) (same_of a2 b2 (fun e he => h3 e (by simp [he])) (fun e he => h4 e (by simp [he])) (fun x => ?_))
    have := h x
    rw [oft, oft] at this
    omega
theorem add_turned {C D : List (Int × Int)} (h1 : C.Pairwise (fun a b => a.1 < b.1)) (h2 : D.Pairwise (fun a b => a.1 < b.1)) (h3 : ∀ c ∈ C, 1 ≤ c.2) (h4 : ∀ c ∈ D, 1 ≤ c.2) : addAll C D = addAll D C :=
  same_of (addAll_ord h1) (addAll_ord h2) (addAll_num h3 h4) (addAll_num h4 h3) (fun x => by rw [addAll_oft, addAll_oft, Int.add_comm])
/-- Boyer, Moore: who is more than half of all has the one counter -/
theorem near_most {A C : List (Int × Int)} {L x : Int} (h : Near 1 A L C) (hx : tot A < 2 * oft x A) : ∃ n, C = [(x, n)] := by
  have h1 := h.sum
  have h2 := h.high x
  have h3 := tot_pos (C := C) (fun c hc => by have := (h.good.num c hc).1; omega)
  obtain ⟨c, hc, e⟩ := oft_has (C := C) (x := x) (by omega)
  have hl := h.good.len
  match C, hc, hl with
  | [d], hc, _ =>
    rw [List.mem_singleton] at hc
    subst hc
    exact ⟨c.2, by rw [← e]⟩
  | d :: f :: D, _, hl => simp at hl; omega
end Few
end Go.Proofs.YtffgoekdjcempaaGreat
