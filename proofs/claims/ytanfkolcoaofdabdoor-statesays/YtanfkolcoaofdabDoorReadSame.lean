/- Reading byte by byte is splitting at commas and cutting at the first equals sign. No Go text in sight. -/
import Derived.Test.YtanfkolcoaofdabDoorTextBack
import Derived.Test.YtanfkolcoaofdabDoorReadMath
namespace Go.Proofs.YtanfkolcoaofdabDoor
namespace StateMath

def bs (l : List UInt8) : ByteArray := ⟨l.toArray⟩
theorem bs_data (a : ByteArray) : bs a.data.toList = a := by cases a; rfl
theorem bs_app (a b : List UInt8) : bs a ++ bs b = bs (a ++ b) := by
  apply bytes_inj
  rw [ByteArray.data_append]
  simp [bs]
theorem bs_nil : bs [] = ByteArray.empty := rfl
theorem run_app (t : RSt) (l r : List UInt8) : t.run (l ++ r) = (t.run l).bind (fun u => u.run r) := by
  induction l generalizing t with
  | nil => rfl
  | cons d l ih =>
    simp only [List.cons_append, RSt.run]
    cases t.step d with
    | none => rfl
    | some u => exact ih u
theorem run_val (o : List Pr) (k : ByteArray) (x : List UInt8) (h : (44 : UInt8) ∉ x) : ∀ v : List UInt8, (⟨o, k, bs v, true⟩ : RSt).run x = some ⟨o, k, bs (v ++ x), true⟩ := by
  induction x with
  | nil => intro v; rw [List.append_nil]; rfl
  | cons c x ih =>
    intro v
    have hc : c ≠ 44 := fun e => h (e ▸ List.mem_cons_self ..)
    have hs : (⟨o, k, bs v, true⟩ : RSt).step c = some ⟨o, k, bs (v ++ [c]), true⟩ := by
      unfold RSt.step
      rw [if_neg hc, if_pos rfl, ← bs_app]
      rfl
    rw [RSt.run, hs]
    show (⟨o, k, bs (v ++ [c]), true⟩ : RSt).run x = _
    rw [ih (fun hh => h (List.mem_cons_of_mem _ hh)), List.append_assoc]
    rfl
theorem run_key (o : List Pr) (w : ByteArray) (x : List UInt8) (h : (44 : UInt8) ∉ x) (h2 : (61 : UInt8) ∉ x) : ∀ k : List UInt8, (⟨o, bs k, w, false⟩ : RSt).run x = some ⟨o, bs (k ++ x), w, false⟩ := by
  induction x with
  | nil => intro k; rw [List.append_nil]; rfl
  | cons c x ih =>
    intro k
    have hc : c ≠ 44 := fun e => h (e ▸ List.mem_cons_self ..)
    have hc2 : c ≠ 61 := fun e => h2 (e ▸ List.mem_cons_self ..)
    have hs : (⟨o, bs k, w, false⟩ : RSt).step c = some ⟨o, bs (k ++ [c]), w, false⟩ := by
      unfold RSt.step
      rw [if_neg hc, if_neg (by simp), if_neg hc2, ← bs_app]
      rfl
    rw [RSt.run, hs]
    show (⟨o, bs (k ++ [c]), w, false⟩ : RSt).run x = _
    rw [ih (fun hh => h (List.mem_cons_of_mem _ hh)) (fun hh => h2 (List.mem_cons_of_mem _ hh)), List.append_assoc]
    rfl
theorem run_part (o : List Pr) (x : List UInt8) (h : (44 : UInt8) ∉ x) : (⟨o, ByteArray.empty, ByteArray.empty, false⟩ : RSt).run (x ++ [44]) = (cutP (bs x)).map (fun p => ⟨o ++ [p], ByteArray.empty, ByteArray.empty, false⟩) := by
  rw [RSt.run_snoc]
  by_cases hi : Lib.indexByte x 61 = -1
  · have hn : (61 : UInt8) ∉ x := by
      intro hm
      obtain ⟨a, b, rfl, ha⟩ : ∃ a b, x = a ++ 61 :: b ∧ (61 : UInt8) ∉ a := by
        clear h hi
        induction x with
        | nil => cases hm
        | cons c x ih =>
          by_cases e : c = 61
          · exact ⟨[], x, by rw [e]; rfl, by simp⟩
          · rcases List.mem_cons.1 hm with hm | hm
            · exact absurd hm.symm e
            · obtain ⟨a, b, rfl, ha⟩ := ih hm
              exact ⟨c :: a, b, rfl, fun hh => by rcases List.mem_cons.1 hh with hh | hh; exact e hh.symm; exact ha hh⟩
      rw [ib_hit a b 61 ha] at hi
      omega
    have hr := run_key o ByteArray.empty x h hn []
    rw [bs_nil, List.nil_append] at hr
    rw [hr]
    have hc : cutP (bs x) = none := by
      unfold cutP
      rw [if_neg]
      intro hcut
      have := part_cut x hcut
      exact hn (by rw [← this]; simp)
    rw [hc]
    rfl
  · obtain ⟨a, b, rfl, ha⟩ := ib_at x 61 hi
    have h44a : (44 : UInt8) ∉ a := fun hh => h (by simp [hh])
    have h44b : (44 : UInt8) ∉ b := fun hh => h (by simp [hh])
    have hc : cutP (bs (a ++ 61 :: b)) = some (bs a, bs b) := by
      unfold cutP
      show (if (Lib.cut (a ++ 61 :: b) [61]).2.2 = true then _ else _) = _
      rw [if_pos (by rw [cut_list a b ha])]
      show some (bs (Lib.cut (a ++ 61 :: b) [61]).1, bs (Lib.cut (a ++ 61 :: b) [61]).2.1) = _
      rw [cut_list a b ha]
    rw [hc, run_app]
    have hr := run_key o ByteArray.empty a h44a ha []
    rw [bs_nil, List.nil_append] at hr
    rw [hr]
    show ((⟨o, bs a, ByteArray.empty, false⟩ : RSt).run (61 :: b)).bind _ = _
    have hs : (⟨o, bs a, ByteArray.empty, false⟩ : RSt).step 61 = some ⟨o, bs a, ByteArray.empty, true⟩ := by
      unfold RSt.step
      rw [if_neg (by decide), if_neg (by simp), if_pos rfl]
    have hv := run_val o (bs a) b h44b []
    rw [bs_nil, List.nil_append] at hv
    rw [RSt.run, hs]
    show ((⟨o, bs a, ByteArray.empty, true⟩ : RSt).run b).bind _ = _
    rw [hv]
    rfl
theorem run_parts : ∀ (Q : List (List UInt8)) (o : List Pr), (∀ x ∈ Q, (44 : UInt8) ∉ x) → (⟨o, ByteArray.empty, ByteArray.empty, false⟩ : RSt).run (Q.flatMap (fun x => x ++ [44])) = (cutAll (Q.map bs)).map (fun R => ⟨o ++ R, ByteArray.empty, ByteArray.empty, false⟩)
  | [], o, _ => by show some (⟨o, _, _, _⟩ : RSt) = some ⟨o ++ [], _, _, _⟩; rw [List.append_nil]
  | x :: Q, o, h => by
    rw [List.flatMap_cons, run_app, run_part o x (h x (List.mem_cons_self ..)), List.map_cons]
    show _ = ((cutP (bs x)).bind (fun p => (cutAll (Q.map bs)).map (fun r => p :: r))).map _
    cases cutP (bs x) with
    | none => rfl
    | some p =>
      show (⟨o ++ [p], ByteArray.empty, ByteArray.empty, false⟩ : RSt).run (Q.flatMap (fun x => x ++ [44])) = _
      rw [run_parts Q (o ++ [p]) (fun y hy => h y (List.mem_cons_of_mem _ hy))]
      cases hq : cutAll (Q.map bs) with
      | none => simp [hq]
      | some R => simp [hq]
theorem split_no : ∀ (n : Nat) (s : List UInt8), s.count 44 = n → ∀ x ∈ Lib.splitK [44] 0 n s, (44 : UInt8) ∉ x
  | 0, s, h, x, hx => by
    rw [Lib.splitK] at hx
    simp at hx
    subst hx
    exact List.count_eq_zero.1 h
  | n + 1, s, h, x, hx => by
    have hi : Lib.indexByte s 44 ≠ -1 := by
      intro hi
      have hm : (44 : UInt8) ∈ s := List.count_pos_iff.1 (by omega)
      obtain ⟨a, b, rfl, ha⟩ : ∃ a b, s = a ++ 44 :: b ∧ (44 : UInt8) ∉ a := by
        clear h hi hx
        induction s with
        | nil => cases hm
        | cons c s ih =>
          by_cases e : c = 44
          · exact ⟨[], s, by rw [e]; rfl, by simp⟩
          · rcases List.mem_cons.1 hm with hm | hm
            · exact absurd hm.symm e
            · obtain ⟨a, b, rfl, ha⟩ := ih hm
              exact ⟨c :: a, b, rfl, fun hh => by rcases List.mem_cons.1 hh with hh | hh; exact e hh.symm; exact ha hh⟩
      rw [ib_hit a b 44 ha] at hi
      omega
    obtain ⟨a, b, rfl, ha⟩ := ib_at s 44 hi
    rw [splitK_hit n a b ha] at hx
    rcases List.mem_cons.1 hx with rfl | hx
    · exact ha
    · have hc : b.count 44 = n := by
        rw [List.count_append, List.count_cons, List.count_eq_zero_of_not_mem ha] at h
        simp at h
        exact h
      exact split_no n b hc x hx
theorem join_flat : ∀ (Q : List (List UInt8)), Q ≠ [] → Lib.join Q [44] ++ [44] = Q.flatMap (fun x => x ++ [44])
  | [], h => absurd rfl h
  | [x], _ => by rw [Lib.join_one]; simp
  | x :: y :: r, _ => by
    rw [join_two, List.flatMap_cons, ← join_flat (y :: r) (by simp)]
    simp
theorem pairs_same (s : ByteArray) : pairsOf s = cutAll (partsOf s) := by
  have hp := parts_data s
  have hj := join_split (s.data.toList.count 44) s.data.toList
  have hn := split_no _ s.data.toList rfl
  have hne := splitK_ne (s.data.toList.count 44) s.data.toList
  have hm : (Lib.splitK [44] 0 (s.data.toList.count 44) s.data.toList).map bs = partsOf s := by
    rw [← hp, List.map_map]
    conv => rhs; rw [← List.map_id (partsOf s)]
    apply List.map_congr_left
    intro q _
    exact bs_data q
  generalize Lib.splitK [44] 0 (s.data.toList.count 44) s.data.toList = Q at *
  unfold pairsOf closed RSt.init
  have hf := join_flat Q hne
  rw [hj] at hf
  rw [hf, run_parts Q [] hn, hm]
  cases cutAll (partsOf s) with
  | none => rfl
  | some R => rfl
theorem read_same (s : ByteArray) : readOf s = readP s := by
  unfold readOf readP
  rw [pairs_same]
  split
  · rfl
  · split
    · rfl
    · cases cutAll (partsOf s) <;> rfl
end StateMath
end Go.Proofs.YtanfkolcoaofdabDoor
