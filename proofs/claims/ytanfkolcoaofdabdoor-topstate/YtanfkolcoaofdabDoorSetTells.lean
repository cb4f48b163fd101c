/- What was set is told, and nothing else changes; set again it is the same. No Go text in sight. -/
import Derived.Test.YtanfkolcoaofdabDoorSetMath
namespace Go.Proofs.YtanfkolcoaofdabDoor
namespace StateMath

theorem thB_bytes (n : Nat) : (thB n).data.toList = HexaMath.th n := by
  rw [thB_eq, Lib.extract_data]
  rfl
theorem rvB_bytes (n : Nat) : (rvB n).data.toList = HexaMath.rv n := rfl
theorem hex_val : ∀ i : Fin 256, HexaMath.isHex (UInt8.ofNat i.val) = true → valByte (UInt8.ofNat i.val) = true := by decide +kernel
theorem hex_vals {l : List UInt8} (h : l.all HexaMath.isHex = true) : l.all valByte = true := by
  rw [List.all_eq_true] at h ⊢
  intro c hc
  exact all_bytes (p := fun c => HexaMath.isHex c = true → valByte c = true) hex_val c (h c hc)
theorem valOk_hex {l : List UInt8} (h : l.all HexaMath.isHex = true) (h0 : 0 < l.length) : valOk l = true := by
  unfold valOk
  rw [hex_vals h, Bool.and_true]
  cases l with
  | nil => simp at h0
  | cons a t => rfl
theorem rv_len14 (n : Nat) : (HexaMath.rv n).length = 14 := by
  have := rvB_size n
  rw [← len_list, rvB_bytes] at this
  exact this
theorem thP_ok (m : Mk) : pairOk (thP m) = true := by
  unfold pairOk thP
  rw [show keyOk (⟨#[116, 104]⟩ : ByteArray).data.toList = true from by decide +kernel, Bool.true_and]
  show valOk (thB m.th.toNat).data.toList = true
  rw [thB_bytes]
  exact valOk_hex (HexaMath.th_hex _) (by have := (HexaMath.th_length m.th.toNat).1; omega)
theorem rvP_ok (m : Mk) : pairOk (rvP m) = true := by
  unfold pairOk rvP
  rw [show keyOk (⟨#[114, 118]⟩ : ByteArray).data.toList = true from by decide +kernel, Bool.true_and]
  show valOk (rvB m.rv.toNat).data.toList = true
  rw [rvB_bytes]
  exact valOk_hex (HexaMath.rv_hex _) (by rw [rv_len14]; omega)
theorem mem_marks {m : Mk} {p : Pr} (h : p ∈ marksOf m) : p = thP m ∨ p = rvP m := by
  unfold marksOf at h
  rcases List.mem_append.1 h with h | h
  · cases hh : m.ht <;> simp [hh] at h
    exact Or.inl h
  · cases hh : m.hr <;> simp [hh] at h
    exact Or.inr h
theorem marks_plain {m : Mk} {p : Pr} (h : p ∈ marksOf m) : plainP p = false := by
  rcases mem_marks h with rfl | rfl <;> rfl
theorem plain_ne {p q : Pr} (hp : plainP p = false) (hq : plainP q = true) : p.1 ≠ q.1 := by
  intro e
  have : plainP p = plainP q := by unfold plainP; rw [e]
  rw [hp, hq] at this
  cases this
theorem apart_set (L : List Pr) (m : Mk) (h : Apart L) : Apart (marksOf m ++ othersOf L) := by
  refine List.pairwise_append.2 ⟨?_, h.sublist List.filter_sublist, ?_⟩
  · unfold marksOf
    cases m.ht <;> cases m.hr <;> simp [thP, rvP]
  · intro p hp q hq
    exact plain_ne (marks_plain hp) (List.mem_filter.1 hq).2
theorem check_set (L : List Pr) (m : Mk) (h : check L = 0) (hl : (marksOf m ++ othersOf L).length ≤ 40) : check (marksOf m ++ othersOf L) = 0 := by
  obtain ⟨_, h1, h2⟩ := (check_zero_iff L).1 h
  refine (check_zero_iff _).2 ⟨hl, ?_, apart_set L m h2⟩
  intro p hp
  rcases List.mem_append.1 hp with hp | hp
  · rcases mem_marks hp with rfl | rfl
    · exact thP_ok m
    · exact rvP_ok m
  · exact h1 p (List.mem_filter.1 hp).1
theorem run_plain (m : Mk) (L : List Pr) (h : ∀ p ∈ L, plainP p = true) : m.run L = some m := by
  induction L with
  | nil => rfl
  | cons p t ih =>
    show (m.step p).bind _ = _
    have hp := h p (List.mem_cons_self ..)
    unfold plainP at hp
    have h1 : ¬ p.1.data.toList = [116, 104] := by intro e; rw [e] at hp; simp at hp
    have h2 : ¬ p.1.data.toList = [114, 118] := by intro e; rw [e] at hp; simp at hp
    rw [show m.step p = some m from by unfold Mk.step; rw [if_neg h1, if_neg h2]]
    exact ih (fun q hq => h q (List.mem_cons_of_mem _ hq))
/-- the mark with what is absent at zero -/
def tidy (m : Mk) : Mk := ⟨if m.ht then m.th else 0, if m.hr then m.rv else 0, m.ht, m.hr⟩
theorem run_marks (m : Mk) (h : mkOk m = true) : Mk.zero.run (marksOf m) = some (tidy m) := by
  obtain ⟨h1, h2, h3, h4⟩ : 0 ≤ m.th ∧ m.th < 72057594037927936 ∧ 0 ≤ m.rv ∧ m.rv < 72057594037927936 := by
    unfold mkOk at h
    simp at h
    omega
  have e1 : ∀ u : Mk, u.step (thP m) = some { u with th := m.th, ht := true } := by
    intro u
    unfold Mk.step
    rw [if_pos (show (thP m).1.data.toList = [116, 104] from rfl)]
    show (HexaMath.parseTh (thB m.th.toNat).data.toList).map _ = _
    rw [thB_bytes, HexaMath.parseTh_th _ (by omega)]
    show some { u with th := ((m.th.toNat : Nat) : Int), ht := true } = _
    rw [Int.toNat_of_nonneg h1]
  have e2 : ∀ u : Mk, u.step (rvP m) = some { u with rv := m.rv, hr := true } := by
    intro u
    unfold Mk.step
    rw [if_neg (show ¬ (rvP m).1.data.toList = [116, 104] from by show ¬ ([114, 118] : List UInt8) = [116, 104]; decide), if_pos (show (rvP m).1.data.toList = [114, 118] from rfl)]
    show (HexaMath.parseRv (rvB m.rv.toNat).data.toList).map _ = _
    rw [rvB_bytes, HexaMath.parseRv_rv _ (by omega)]
    show some { u with rv := ((m.rv.toNat : Nat) : Int), hr := true } = _
    rw [Int.toNat_of_nonneg h3]
  unfold marksOf tidy
  cases ht : m.ht <;> cases hr : m.hr
  · rfl
  · show (Mk.zero.step (rvP m)).bind _ = _
    rw [e2]; rfl
  · show (Mk.zero.step (thP m)).bind _ = _
    rw [e1]; rfl
  · show (Mk.zero.step (thP m)).bind (fun u => (u.step (rvP m)).bind _) = _
    rw [e1]
    show ((Mk.step _ (rvP m)).bind _) = _
    rw [e2]; rfl
theorem mark_set (L : List Pr) (m : Mk) (h : check L = 0) (hm : mkOk m = true) (hl : (marksOf m ++ othersOf L).length ≤ 40) : markOf (marksOf m ++ othersOf L) = (tidy m, 0) := by
  refine markOf_some (check_set L m h hl) ?_
  rw [Mk.run_append, run_marks m hm]
  exact run_plain _ _ (fun p hp => (List.mem_filter.1 hp).2)
theorem others_set (L : List Pr) (m : Mk) : othersOf (marksOf m ++ othersOf L) = othersOf L := by
  unfold othersOf
  rw [List.filter_append, List.filter_filter]
  have e : (marksOf m).filter plainP = [] := by
    rw [List.filter_eq_nil_iff]
    intro p hp
    rw [marks_plain hp]
    decide
  rw [e, List.nil_append]
  simp
theorem set_again (L : List Pr) (m : Mk) (h : check L = 0) (hm : mkOk m = true) (hl : (marksOf m ++ othersOf L).length ≤ 40) : setOf (marksOf m ++ othersOf L) m = (marksOf m ++ othersOf L, 0) := by
  have e := setOf_ok (L := marksOf m ++ othersOf L) (check_set L m h hl) hm (by rw [others_set]; exact hl)
  rw [others_set] at e
  exact e
theorem set_none (L : List Pr) (m : Mk) (h : check L = 0) (hl : (marksOf m ++ othersOf L).length ≤ 40) : setOf (marksOf m ++ othersOf L) Mk.zero = (othersOf L, 0) := by
  have e0 : marksOf Mk.zero = [] := rfl
  have e := setOf_ok (L := marksOf m ++ othersOf L) (m := Mk.zero) (check_set L m h hl) (by decide) (by rw [others_set, e0]; rw [List.length_append] at hl; simp; omega)
  rw [others_set, e0] at e
  exact e
theorem set_err {L : List Pr} {m : Mk} (h : (setOf L m).2 ≠ 0) : (setOf L m).1 = [] := by
  unfold setOf at h ⊢
  split
  · split
    · split
      · rfl
      · rename_i h1 h2 h3
        rw [if_pos h1, if_pos h2, if_neg h3] at h
        exact absurd rfl h
    · rfl
  · rfl
theorem set_inv {L : List Pr} {m : Mk} (h : (setOf L m).2 = 0) : check L = 0 ∧ mkOk m = true ∧ (marksOf m ++ othersOf L).length ≤ 40 ∧ (setOf L m).1 = marksOf m ++ othersOf L := by
  unfold setOf at h ⊢
  by_cases h1 : check L = 0
  · rw [if_pos h1] at h ⊢
    by_cases h2 : mkOk m = true
    · rw [if_pos h2] at h ⊢
      by_cases h3 : 40 < (marksOf m ++ othersOf L).length
      · rw [if_pos h3] at h; cases h
      · rw [if_neg h3]
        exact ⟨h1, h2, by omega, rfl⟩
    · rw [if_neg h2] at h; cases h
  · rw [if_neg h1] at h
    exact absurd h h1
theorem size_set {L : List Pr} {m : Mk} (h : ∀ p ∈ L, p.1.size ≤ maxLen ∧ p.2.size ≤ maxLen) : ∀ p ∈ marksOf m ++ othersOf L, p.1.size ≤ maxLen ∧ p.2.size ≤ maxLen := by
  intro p hp
  rcases List.mem_append.1 hp with hp | hp
  · rcases mem_marks hp with rfl | rfl
    · refine ⟨by show 2 ≤ maxLen; decide, ?_⟩
      show (thB m.th.toNat).size ≤ maxLen
      rw [← len_list, thB_bytes]
      have := (HexaMath.th_length m.th.toNat).2
      unfold maxLen; omega
    · refine ⟨by show 2 ≤ maxLen; decide, ?_⟩
      show (rvB m.rv.toNat).size ≤ maxLen
      rw [rvB_size]; decide
  · exact h p (List.mem_filter.1 hp).1
end StateMath
end Go.Proofs.YtanfkolcoaofdabDoor
