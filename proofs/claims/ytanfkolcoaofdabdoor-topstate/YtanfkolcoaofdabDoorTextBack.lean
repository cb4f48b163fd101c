/- Splitting at commas and cutting at the first equals sign undo the text form, and the other way round. No Go text in sight. -/
import Derived.Test.YtanfkolcoaofdabDoorStateRead
import Derived.Lib.SplitLaws
import Derived.Lib.IndexBytes
namespace Go.Proofs.YtanfkolcoaofdabDoor
namespace StateMath

theorem ib_hit (x t : List UInt8) (c : UInt8) (h : c ∉ x) : Lib.indexByte (x ++ c :: t) c = x.length := by
  induction x with
  | nil => simp [Lib.indexByte]
  | cons b x ih =>
    have h1 : b ≠ c := fun e => h (e ▸ List.mem_cons_self ..)
    have h2 := ih (fun hh => h (List.mem_cons_of_mem _ hh))
    rw [List.cons_append, Lib.indexByte, h2]
    simp [h1]
theorem ib_at (s : List UInt8) (c : UInt8) (h : Lib.indexByte s c ≠ -1) : ∃ x t, s = x ++ c :: t ∧ c ∉ x := by
  induction s with
  | nil => exact absurd rfl h
  | cons b s ih =>
    by_cases e : b = c
    · exact ⟨[], s, by rw [e]; rfl, by simp⟩
    · have h' : Lib.indexByte s c ≠ -1 := by
        intro e2
        apply h
        rw [Lib.indexByte, e2]
        simp [e]
      obtain ⟨x, t, hs, hx⟩ := ih h'
      refine ⟨b :: x, t, by rw [hs]; rfl, ?_⟩
      intro hh
      rcases List.mem_cons.1 hh with hh | hh
      · exact e hh.symm
      · exact hx hh
theorem join_two (x y : List UInt8) (r : List (List UInt8)) : Lib.join (x :: y :: r) [44] = x ++ 44 :: Lib.join (y :: r) [44] := by
  rw [Lib.join_cons, Lib.join_cons]
  simp [Lib.joinTail]
theorem splitK_hit (k : Nat) (x t : List UInt8) (h : (44 : UInt8) ∉ x) : Lib.splitK [44] 0 (k + 1) (x ++ 44 :: t) = x :: Lib.splitK [44] 0 k t := by
  rw [Lib.splitK, Lib.index_one, ib_hit x t 44 h]
  have e : ((x.length : Int) == -1) = false := by simp
  rw [e]
  simp
theorem split_join (l : List (List UInt8)) (hne : l ≠ []) (h : ∀ x ∈ l, (44 : UInt8) ∉ x) : Lib.splitK [44] 0 (l.length - 1) (Lib.join l [44]) = l := by
  induction l with
  | nil => exact absurd rfl hne
  | cons x r ih =>
    cases r with
    | nil => rw [Lib.join_one]; rfl
    | cons y r =>
      rw [join_two]
      show Lib.splitK [44] 0 (r.length + 1) _ = _
      rw [splitK_hit _ _ _ (h x (List.mem_cons_self ..))]
      have := ih (by simp) (fun z hz => h z (List.mem_cons_of_mem _ hz))
      rw [show (y :: r).length - 1 = r.length from by simp] at this
      rw [this]
theorem count_join (l : List (List UInt8)) (hne : l ≠ []) (h : ∀ x ∈ l, (44 : UInt8) ∉ x) : (Lib.join l [44]).count 44 = l.length - 1 := by
  induction l with
  | nil => exact absurd rfl hne
  | cons x r ih =>
    have hx := List.count_eq_zero_of_not_mem (h x (List.mem_cons_self ..))
    cases r with
    | nil => rw [Lib.join_one, hx]; rfl
    | cons y r =>
      have := ih (by simp) (fun z hz => h z (List.mem_cons_of_mem _ hz))
      rw [join_two, List.count_append, List.count_cons, hx, this]
      simp
theorem splitK_ne (k : Nat) (s : List UInt8) : Lib.splitK [44] 0 k s ≠ [] := by
  cases k with
  | zero => rw [Lib.splitK]; simp
  | succ k =>
    rw [Lib.splitK]
    split <;> simp
theorem join_split (k : Nat) (s : List UInt8) : Lib.join (Lib.splitK [44] 0 k s) [44] = s := by
  induction k generalizing s with
  | zero => rw [Lib.splitK, Lib.join_one]
  | succ k ih =>
    by_cases hi : Lib.indexByte s 44 = -1
    · rw [Lib.splitK, Lib.index_one, hi]
      simp [Lib.join_one]
    · obtain ⟨x, t, rfl, hx⟩ := ib_at s 44 hi
      rw [splitK_hit k x t hx]
      have hn := splitK_ne k t
      have hj := ih t
      generalize Lib.splitK [44] 0 k t = q at *
      cases q with
      | nil => exact absurd rfl hn
      | cons y r => rw [join_two, hj]
theorem cut_list (x t : List UInt8) (h : (61 : UInt8) ∉ x) : Lib.cut (x ++ 61 :: t) [61] = (x, t, true) := by
  unfold Lib.cut
  rw [Lib.index_one, ib_hit _ _ _ h, if_pos (by omega)]
  simp
theorem cut_part (p : Pr) (h : (61 : UInt8) ∉ p.1.data.toList) : Lib.cut (partL p) [61] = (p.1.data.toList, p.2.data.toList, true) := cut_list _ _ h
theorem part_cut (s : List UInt8) (h : (Lib.cut s [61]).2.2 = true) : (Lib.cut s [61]).1 ++ 61 :: (Lib.cut s [61]).2.1 = s := by
  unfold Lib.cut at h ⊢
  rw [Lib.index_one] at h ⊢
  by_cases hi : Lib.indexByte s 61 = -1
  · rw [hi] at h; simp at h
  · obtain ⟨x, t, rfl, hx⟩ := ib_at s 61 hi
    rw [ib_hit x t 61 hx]
    simp
/-! ### what is read is what was written -/
theorem key_no : ∀ i : Fin 256, keyByte (UInt8.ofNat i.val) = true → UInt8.ofNat i.val ≠ 44 ∧ UInt8.ofNat i.val ≠ 61 := by decide +kernel
theorem val_no : ∀ i : Fin 256, valByte (UInt8.ofNat i.val) = true → UInt8.ofNat i.val ≠ 44 ∧ UInt8.ofNat i.val ≠ 61 := by decide +kernel
theorem ok_key {p : Pr} (h : pairOk p = true) : (44 : UInt8) ∉ p.1.data.toList ∧ (61 : UInt8) ∉ p.1.data.toList := by
  unfold pairOk keyOk at h
  simp only [Bool.and_eq_true, List.all_eq_true] at h
  have hk := h.1.1
  exact ⟨fun hh => (all_bytes (p := fun c => keyByte c = true → c ≠ 44 ∧ c ≠ 61) key_no 44 (hk 44 hh)).1 rfl, fun hh => (all_bytes (p := fun c => keyByte c = true → c ≠ 44 ∧ c ≠ 61) key_no 61 (hk 61 hh)).2 rfl⟩
theorem ok_val {p : Pr} (h : pairOk p = true) : (44 : UInt8) ∉ p.2.data.toList := by
  unfold pairOk valOk at h
  simp only [Bool.and_eq_true, List.all_eq_true] at h
  have hk := h.2.2
  exact fun hh => (all_bytes (p := fun c => valByte c = true → c ≠ 44 ∧ c ≠ 61) val_no 44 (hk 44 hh)).1 rfl
theorem ok_part {p : Pr} (h : pairOk p = true) : (44 : UInt8) ∉ partL p := by
  unfold partL
  intro hh
  rcases List.mem_append.1 hh with hh | hh
  · exact (ok_key h).1 hh
  · rcases List.mem_cons.1 hh with hh | hh
    · cases hh
    · exact ok_val h hh
theorem bytes_inj {a b : ByteArray} (h : a.data.toList = b.data.toList) : a = b := ByteArray.ext (Array.toList_inj.1 h)
theorem parts_data (s : ByteArray) : (partsOf s).map (·.data.toList) = Lib.splitK [44] 0 (s.data.toList.count 44) s.data.toList := by
  unfold partsOf
  rw [Lib.splitB_data]
  show Lib.splitK [44] 0 (Lib.count s.data.toList [44]) _ = _
  rw [Lib.count_one]
theorem parts_text (L : List Pr) (hne : L ≠ []) (h : ∀ p ∈ L, pairOk p = true) : (partsOf (textB L)).map (·.data.toList) = L.map partL := by
  have h1 : ∀ x ∈ L.map partL, (44 : UInt8) ∉ x := by
    intro x hx
    obtain ⟨p, hp, rfl⟩ := List.mem_map.1 hx
    exact ok_part (h p hp)
  have h2 : L.map partL ≠ [] := by simpa using hne
  rw [parts_data, textB_bytes, count_join _ h2 h1, split_join _ h2 h1]
theorem cutAll_parts (Q : List ByteArray) (L : List Pr) (h : ∀ p ∈ L, pairOk p = true) (hq : Q.map (·.data.toList) = L.map partL) : cutAll Q = some L := by
  induction L generalizing Q with
  | nil =>
    cases Q with
    | nil => rfl
    | cons q t => simp at hq
  | cons p r ih =>
    cases Q with
    | nil => simp at hq
    | cons q t =>
      simp only [List.map_cons, List.cons.injEq] at hq
      have e1 : cutP q = some p := by
        unfold cutP
        rw [hq.1, cut_part p (ok_key (h p (List.mem_cons_self ..))).2]
        rfl
      show (cutP q).bind _ = _
      rw [e1]
      show (cutAll t).map _ = _
      rw [ih t (fun x hx => h x (List.mem_cons_of_mem _ hx)) hq.2]
      rfl
theorem read_text (L : List Pr) (hc : check L = 0) (hl : tlen L ≤ 200) : readP (textB L) = (L, 0) := by
  unfold readP
  rw [textB_size, if_neg (by omega)]
  by_cases h0 : tlen L = 0
  · rw [if_pos h0]
    cases L with
    | nil => rfl
    | cons p t =>
      unfold tlen at h0
      rw [if_neg (by simp)] at h0
      simp at h0
      omega
  · rw [if_neg h0]
    have hne : L ≠ [] := by rintro rfl; exact h0 rfl
    rw [cutAll_parts _ L ((check_zero_iff L).1 hc).2.1 (parts_text L hne ((check_zero_iff L).1 hc).2.1)]
    show (if check L = 0 then (L, (0 : Int)) else _) = _
    rw [if_pos hc]
theorem parts_cut (Q : List ByteArray) (R : List Pr) (h : cutAll Q = some R) : R.map partL = Q.map (·.data.toList) := by
  induction Q generalizing R with
  | nil => cases h; rfl
  | cons q t ih =>
    have h' : (cutP q).bind (fun p => (cutAll t).map (fun r => p :: r)) = some R := h
    cases hx : cutP q with
    | none => rw [hx] at h'; cases h'
    | some p =>
      rw [hx] at h'
      cases ht : cutAll t with
      | none => rw [ht] at h'; cases h'
      | some u =>
        rw [ht] at h'
        cases h'
        rw [List.map_cons, List.map_cons, ih u ht]
        congr 1
        unfold cutP at hx
        split at hx
        · rename_i hc
          cases hx
          exact part_cut q.data.toList hc
        · cases hx
theorem text_read (s : ByteArray) (R : List Pr) (h : cutAll (partsOf s) = some R) : textB R = s := by
  apply bytes_inj
  rw [textB_bytes, parts_cut _ R h, parts_data, join_split]
end StateMath
end Go.Proofs.YtanfkolcoaofdabDoor
