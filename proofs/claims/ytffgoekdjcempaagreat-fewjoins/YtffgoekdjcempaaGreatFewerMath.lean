/- Counters collected from a map, in order, cut down: what culref.Fewer makes is what the few counters keep. Mathematics alone. -/
import Derived.Test.YtffgoekdjcempaaGreatFewSettle
import Derived.Test.YtffgoekdjcempaaGreatDelCtrs
namespace Go.Proofs.YtffgoekdjcempaaGreat
namespace Few
theorem nodup_keys : ∀ {A : List (Int × Int)}, A.Pairwise (fun a b => a.1 ≤ b.1) → (A.map (fun p => p.1)).Nodup → A.Pairwise (fun a b => a.1 < b.1)
  | [], _, _ => List.Pairwise.nil
  | a :: A, h, hn => by
    obtain ⟨h1, h2⟩ := List.pairwise_cons.1 h
    rw [List.map_cons, List.nodup_cons] at hn
    refine List.pairwise_cons.2 ⟨fun b hb => ?_, nodup_keys h2 hn.2⟩
    have h3 := h1 b hb
    have h4 : a.1 ≠ b.1 := fun e => hn.1 (by rw [e]; exact List.mem_map_of_mem hb)
    omega
theorem oft_keys {x : Int} {cs : List (Int × Int)} (h : x ∉ cs.map (fun p => p.1)) : oft x cs = 0 :=
  oft_none (fun c hc e => h (List.mem_map.2 ⟨c, hc, e⟩))
theorem oft_one {x : Int} : ∀ {cs : List (Int × Int)}, (∀ p ∈ cs, 1 ≤ p.2) → x ∈ cs.map (fun p => p.1) → 1 ≤ oft x cs
  | [], _, h => by simp at h
  | c :: cs, h1, h => by
    rw [oft]
    have h0 := oft_pos (C := cs) (fun p hp => by have := h1 p (by simp [hp]); omega) x
    have hc := h1 c (by simp)
    by_cases e : c.1 = x
    · rw [if_pos e]; omega
    · rw [if_neg e]
      rw [List.map_cons, List.mem_cons] at h
      rcases h with h | h
      · exact absurd h.symm e
      · have := oft_one (fun p hp => h1 p (by simp [hp])) h
        omega
/-- what is collected from the map, in order, is what the counters hold -/
theorem same_all {cs A A' D : List (Int × Int)} (hA1 : (A.map (fun p => p.1)).Nodup) (hA2 : ∀ z, z ∈ A.map (fun p => p.1) ↔ z ∈ cs.map (fun p => p.1)) (hA3 : ∀ p ∈ A, p.2 = oft p.1 cs) (hcs : ∀ p ∈ cs, 1 ≤ p.2)
    (hp : A'.Perm A) (ho : A'.Pairwise (fun a b => a.1 ≤ b.1)) (hD : D.Pairwise (fun a b => a.1 < b.1)) (hD1 : ∀ d ∈ D, 1 ≤ d.2) (hoft : ∀ x, oft x D = oft x cs) : A' = D := by
  have hn : (A'.map (fun p => p.1)).Nodup := (hp.map (fun p => p.1)).nodup_iff.2 hA1
  have hlt := nodup_keys ho hn
  refine same_of hlt hD (fun c hc => ?_) hD1 (fun x => ?_)
  · have hcA := hp.mem_iff.1 hc
    rw [hA3 c hcA]
    exact oft_one hcs ((hA2 c.1).1 (List.mem_map_of_mem hcA))
  · rw [hoft]
    by_cases hx : x ∈ A'.map (fun p => p.1)
    · obtain ⟨c, hc, rfl⟩ := List.mem_map.1 hx
      rw [oft_of hlt hc, hA3 c (hp.mem_iff.1 hc)]
    · have hx2 : x ∉ cs.map (fun p => p.1) := fun h => hx ((hp.map (fun p => p.1)).mem_iff.2 ((hA2 x).2 h))
      rw [oft_keys hx, oft_keys hx2]
/-- of the numbers, the greatest first, the one behind the k greatest -/
theorem down_at {l : List Int} {C : List (Int × Int)} {k : Nat} (hp : l.Perm (nums C)) (ho : l.Pairwise (fun x y => y ≤ x)) (hk : k < C.length) : l[k]? = some (exC C k) := by
  have e : l.reverse = srtC (nums C) := by
    refine List.Perm.eq_of_pairwise (le := fun x y : Int => x ≤ y) (fun a b _ _ h1 h2 => by omega) ?_ (srtC_ord _) ((List.reverse_perm l).trans (hp.trans (srtC_perm _).symm))
    rw [List.pairwise_reverse]
    exact ho
  have hl : l.length = C.length := by rw [hp.length_eq]; simp [nums]
  have hs : (srtC (nums C)).length = C.length := by rw [srtC_len]; simp [nums]
  have e2 : l = (srtC (nums C)).reverse := by rw [← e, List.reverse_reverse]
  unfold exC
  rw [if_neg (by omega), e2, List.getElem?_reverse (by omega), hs]
  rw [List.getD_eq_getElem?_getD, List.getElem?_eq_getElem (by omega)]
  rfl
def subC (e : Int) (c : Int × Int) : Int × Int := (c.1, c.2 - e)
theorem low_of (e : Int) : ∀ C : List (Int × Int), (C.map (subC e)).filter posC = lowC e C
  | [] => rfl
  | c :: C => by
    rw [List.map_cons, lowC_cons, ← low_of e C]
    by_cases h : e < c.2
    · rw [if_pos h, List.filter_cons_of_pos (by unfold posC subC; simp; omega)]; rfl
    · rw [if_neg h, List.filter_cons_of_neg (by unfold posC subC; simp; omega)]
/-- counters of which the first j have been cut -/
def cutTo (e : Int) (C : List (Int × Int)) (j : Nat) : List (Int × Int) := (C.take j).map (subC e) ++ C.drop j
theorem cutTo_zero (e : Int) (C : List (Int × Int)) : cutTo e C 0 = C := by simp [cutTo]
theorem cutTo_all {e : Int} {C : List (Int × Int)} {n : Nat} (h : C.length = n) : cutTo e C n = C.map (subC e) := by
  unfold cutTo
  rw [List.take_of_length_le (by omega), List.drop_of_length_le (by omega), List.append_nil]
theorem cutTo_len (e : Int) (C : List (Int × Int)) (j : Nat) : (cutTo e C j).length = C.length := by
  unfold cutTo
  rw [List.length_append, List.length_map, List.length_take, List.length_drop]; omega
theorem cutTo_get {e : Int} {C : List (Int × Int)} {j : Nat} {p : Int × Int} (h : C[j]? = some p) : (cutTo e C j)[j]? = some p := by
  have hj := (List.getElem?_eq_some_iff.1 h).1
  unfold cutTo
  rw [List.getElem?_append_right (by rw [List.length_map, List.length_take]; omega), List.length_map, List.length_take, List.getElem?_drop, show j + (j - min j C.length) = j from by omega, h]
theorem cutTo_set {e : Int} {C : List (Int × Int)} {j : Nat} {x m : Int} (h : C[j]? = some (x, m)) : (cutTo e C j).set j (x, m - e) = cutTo e C (j + 1) := by
  have hj := (List.getElem?_eq_some_iff.1 h).1
  unfold cutTo
  have hl : ((C.take j).map (subC e)).length = j := by rw [List.length_map, List.length_take]; omega
  rw [List.set_append_right _ _ (by omega), hl, Nat.sub_self, List.take_add_one, h, Option.toList_some, List.map_append, List.append_assoc]
  congr 1
  rw [List.drop_eq_getElem_cons hj, List.set_cons_zero]
  rfl
theorem setE_iff0 {L : Int} {C : List (Int × Int)} : setE L C = 0 ↔ L ≤ 1000000000000 ∧ ∀ c ∈ C, c.2 ≤ 1000000000000 := by
  unfold setE
  by_cases h : 1000000000000 < L
  · rw [if_pos h]
    exact ⟨fun h1 => (by cases h1), fun h1 => (by omega)⟩
  · rw [if_neg h]
    cases hb : C.any bigC
    · rw [if_neg (by decide)]
      refine ⟨fun _ => ⟨by omega, fun c hc => ?_⟩, fun _ => rfl⟩
      have := List.any_eq_false.1 hb c hc
      unfold bigC at this
      simp at this
      exact this
    · rw [if_pos rfl]
      refine ⟨fun h1 => (by cases h1), fun h1 => ?_⟩
      obtain ⟨c, hc, hbc⟩ := List.any_eq_true.1 hb
      have := h1.2 c hc
      unfold bigC at hbc
      rw [decide_eq_true_iff] at hbc
      omega
theorem setE_two0 {L : Int} {C : List (Int × Int)} (h : setE L C ≠ 0) : setE L C = 2 := by
  unfold setE at h ⊢
  split
  · rfl
  split
  · rfl
  · rename_i h1 h2; rw [if_neg h1, if_neg h2] at h; exact absurd rfl h
/-- a sketch is too large just where settling says so -/
theorem few_set {K L : Int} {C : List (Int × Int)} (k1 : 1 ≤ K) (k2 : K ≤ 16) (l1 : 0 ≤ L) (hl : (C.length : Int) ≤ K) (hn : ∀ c ∈ C, 1 ≤ c.2) (ho : C.Pairwise (fun a b => a.1 < b.1)) : fewE K L C = 0 ↔ setE L C = 0 := by
  rw [fewE_zero, setE_iff0]
  exact ⟨fun h => ⟨h.l2, fun c hc => (h.num c hc).2⟩, fun h => ⟨k1, k2, l1, h.1, hl, fun c hc => ⟨hn c hc, h.2 c hc⟩, ho⟩⟩
end Few
end Go.Proofs.YtffgoekdjcempaaGreat
