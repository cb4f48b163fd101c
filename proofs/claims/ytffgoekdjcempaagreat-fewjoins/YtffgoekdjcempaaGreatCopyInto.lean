/- 'copy' of rows into a place of a slice of the call's own, for elements of any number of cells; parts of such a slice, and its spare room. For every program; no Go text in sight. -/
import Derived.Test.YtffgoekdjcempaaGreatCopyRows
import Derived.Lib.AppendZerosOnto
import Derived.Laws.CopyOwn
namespace Go.Proofs.YtffgoekdjcempaaGreat
open Go.RowKit

/-- cells in rows -/
theorem chunks {α : Type} (k : Nat) : ∀ (m : Nat) (F : List α), F.length = m * k → ∃ Z : List (List α), Z.length = m ∧ (∀ r ∈ Z, r.length = k) ∧ Z.flatten = F
  | 0, F, h => ⟨[], rfl, by simp, by rw [Nat.zero_mul] at h; rw [List.eq_nil_of_length_eq_zero h]; rfl⟩
  | m + 1, F, h => by
    rw [Nat.succ_mul] at h
    obtain ⟨Z, h1, h2, h3⟩ := chunks k m (F.drop k) (by rw [List.length_drop]; omega)
    refine ⟨F.take k :: Z, by rw [List.length_cons, h1], fun r hr => ?_, by rw [List.flatten_cons, h3, List.take_append_drop]⟩
    rcases List.mem_cons.1 hr with rfl | hr
    · rw [List.length_take]; omega
    · exact h2 r hr
theorem flatten_take {k : Nat} : ∀ {R : List (List Value)} (i : Nat), (∀ r ∈ R, r.length = k) → i ≤ R.length → (R.take i).flatten = R.flatten.take (i * k)
  | R, 0, _, _ => by simp
  | [], i + 1, _, h => by simp at h
  | r :: R, i + 1, hR, h => by
    have hr := hR r (by simp)
    rw [List.take_succ_cons, List.flatten_cons, List.flatten_cons, flatten_take i (fun q hq => hR q (by simp [hq])) (by simpa using h), Nat.succ_mul, Nat.add_comm (i * k) k, ← hr, List.take_append, List.take_of_length_le (Nat.le_add_right _ _), Nat.add_sub_cancel_left]
theorem flatten_drop {k : Nat} : ∀ {R : List (List Value)} (i : Nat), (∀ r ∈ R, r.length = k) → i ≤ R.length → (R.drop i).flatten = R.flatten.drop (i * k)
  | R, 0, _, _ => by simp
  | [], i + 1, _, h => by simp at h
  | r :: R, i + 1, hR, h => by
    have hr := hR r (by simp)
    rw [List.drop_succ_cons, List.flatten_cons, flatten_drop i (fun q hq => hR q (by simp [hq])) (by simpa using h), Nat.succ_mul, Nat.add_comm (i * k) k, ← hr, List.drop_append, List.drop_of_length_le (Nat.le_add_right _ _), Nat.add_sub_cancel_left, List.nil_append]
/-- an own slice that has a block -/
theorem Own.laidAt {w : World} {base : Nat} {e : TypeId} {k g n cap : Nat} {R : List (List Value)} (h : Own w base e k (.slice (some ⟨g, 0, none⟩) n cap) R) :
    R.length = n ∧ base ≤ g ∧ n ≤ cap ∧ cap ≤ maxLen ∧ ∃ cur, w.heap[g]? = some (.cells cur e (0, 0)) ∧ cur.size = cap * k ∧ cur.toList.take (n * k) = R.flatten := by
  rcases h.own.2 with ⟨h0, _⟩ | ⟨g', cap', cur, h0, hg, hcur, hle, hm, hsz, htk⟩
  · cases h0
  · simp only [Value.slice.injEq, Option.some.injEq, Addr.mk.injEq, and_true] at h0
    obtain ⟨rfl, hn, rfl⟩ := h0
    rw [hn]
    exact ⟨rfl, hg, hle, hm, cur, hcur, hsz, htk⟩
theorem Own.ofBlock {w : World} {base : Nat} {e : TypeId} {k g n cap : Nat} {R : List (List Value)} {cur : Array Value} (hl : R.length = n) (hr : ∀ r ∈ R, r.length = k) (hg : base ≤ g) (hcur : w.heap[g]? = some (.cells cur e (0, 0))) (hle : n ≤ cap) (hm : cap ≤ maxLen) (hsz : cur.size = cap * k) (htk : cur.toList.take (n * k) = R.flatten) : Own w base e k (.slice (some ⟨g, 0, none⟩) n cap) R :=
  ⟨⟨flatten_len hr, Or.inr ⟨g, cap, cur, by rw [hl], hg, hcur, by rw [hl]; exact hle, hm, hsz, by rw [hl]; exact htk⟩⟩, hr⟩
/-- its beginning -/
theorem Own.ahead {w : World} {base : Nat} {e : TypeId} {k g n cap : Nat} {R : List (List Value)} (h : Own w base e k (.slice (some ⟨g, 0, none⟩) n cap) R) {i : Nat} (hi : i ≤ n) : Own w base e k (.slice (some ⟨g, 0, none⟩) i cap) (R.take i) := by
  obtain ⟨h1, h2, h3, h4, cur, h5, h6, h7⟩ := h.laidAt
  refine Own.ofBlock (by rw [List.length_take]; omega) (fun r hr => h.rows r (List.mem_of_mem_take hr)) h2 h5 (by omega) h4 h6 ?_
  rw [flatten_take i h.rows (by omega), ← h7, List.take_take, Nat.min_eq_left (Nat.mul_le_mul_right _ hi)]
/-- with one more element out of its spare room -/
theorem Own.roomy {w : World} {base : Nat} {e : TypeId} {k g n cap : Nat} {R : List (List Value)} (h : Own w base e k (.slice (some ⟨g, 0, none⟩) n cap) R) (hc : n + 1 ≤ cap) : ∃ r, r.length = k ∧ Own w base e k (.slice (some ⟨g, 0, none⟩) (n + 1) cap) (R ++ [r]) := by
  obtain ⟨h1, h2, h3, h4, cur, h5, h6, h7⟩ := h.laidAt
  have hcl : cur.toList.length = cap * k := by rw [Array.length_toList, h6]
  have hkc : (n + 1) * k ≤ cap * k := Nat.mul_le_mul_right _ hc
  have hs : (n + 1) * k = n * k + k := Nat.succ_mul _ _
  have hr : ((cur.toList.drop (n * k)).take k).length = k := by rw [List.length_take, List.length_drop, hcl]; omega
  refine ⟨(cur.toList.drop (n * k)).take k, hr, Own.ofBlock (by rw [List.length_append, h1]; rfl) (fun r hm => ?_) h2 h5 hc h4 h6 ?_⟩
  · rcases List.mem_append.1 hm with hm | hm
    · exact h.rows r hm
    · rw [List.mem_singleton.1 hm]; exact hr
  · rw [List.flatten_append, ← h7, hs, List.flatten_cons, List.flatten_nil, List.append_nil]
    exact List.take_add
/-- rows that are copied into it, from row i on -/
theorem run_copy_own {P : Program} {w : World} {dT sT e : TypeId} {base g n cap k : Nat} {R : List (List Value)} (hO : Own w base e k (.slice (some ⟨g, 0, none⟩) n cap) R) (hu : P.underlying dT = some (.slice e)) (hs : (P.info? e).map (·.size) = some k)
    (i m dn sn : Nat) (a : Addr) (N : List (List Value)) (hm : Nat.min sn dn = m) (hN : N.length = m) (hNk : ∀ r ∈ N, r.length = k) (hsrc : ∀ j v, N.flatten[j]? = some v → w.cell? (a.add j) = some v) (h1 : ∀ u ∈ N.flatten, u.oneCell' = true) (him : i + m ≤ n) :
    ∃ w', (∀ ty dc sc, (Builtin.copy_ #[dT, sT] ty #[.slice (some ⟨g, i * k, none⟩) dn dc, .slice (some a) sn sc]).run P w = .ok (goInt m) w') ∧ Own w' base e k (.slice (some ⟨g, 0, none⟩) n cap) (R.take i ++ N ++ R.drop (i + m)) ∧ w.grownBy w' (some g) := by
  obtain ⟨l1, l2, l3, l4, cur, l5, l6, l7⟩ := hO.laidAt
  have hcl : cur.toList.length = cap * k := by rw [Array.length_toList, l6]
  have hNl : N.flatten.length = m * k := by rw [flatten_len hNk, hN]
  have hik : i * k + m * k ≤ n * k := by rw [← Nat.add_mul]; exact Nat.mul_le_mul_right _ him
  have hnk : n * k ≤ cap * k := Nat.mul_le_mul_right _ l3
  have hl := run_loadCells_list (P := P) w a N.flatten hsrc
  have hst := run_storeCells_at P g (i * k) e N.flatten 0 cur w l5 (by rw [Nat.add_zero, hNl, l6]; omega) h1
  simp only [Nat.add_zero] at hst
  rw [hNl] at hl
  refine ⟨w.setRow g (cur.toList.take (i * k) ++ N.flatten ++ cur.toList.drop (i * k + N.flatten.length)).toArray, fun ty dc sc => ?_, ?_, ⟨rfl, rfl, rfl, by simp [World.setRow], fun j _ hne => setRow_other w g j _ (fun e => hne (by rw [e]))⟩⟩
  · cases hq : P.info? e with
    | none => simp [hq] at hs
    | some i0 =>
      have hi : i0.size = k := by simpa [hq] using hs
      simp [Builtin.copy_, run_underlying hu, Builtin.lenOf, Builtin.firstCells, sizeOf, typeInfo, hq, hi, hm, hl, hst]
  · refine Own.ofBlock (by rw [List.length_append, List.length_append, List.length_take, List.length_drop, hN, l1]; omega) (fun r hr => ?_) l2 (setRow_heap w g cur _ e _ l5) l3 l4 ?_ ?_
    · rcases List.mem_append.1 hr with hr | hr
      · rcases List.mem_append.1 hr with hr | hr
        · exact hO.rows r (List.mem_of_mem_take hr)
        · exact hNk r hr
      · exact hO.rows r (List.mem_of_mem_drop hr)
    · rw [List.size_toArray, List.length_append, List.length_append, List.length_take, List.length_drop, hNl, hcl]; omega
    · rw [List.toList_toArray, List.flatten_append, List.flatten_append, flatten_take i hO.rows (by omega), flatten_drop (i + m) hO.rows (by omega), ← l7, hNl, Nat.add_mul]
      rw [List.take_take, Nat.min_eq_left (by omega), List.drop_take]
      have e1 : (cur.toList.take (i * k) ++ N.flatten).length = i * k + m * k := by rw [List.length_append, List.length_take, hNl, hcl]; omega
      rw [List.take_append, e1, List.take_of_length_le (by rw [e1]; exact hik)]
/-- an append of a make that finds no room: the elements that were there, and as many more of any value -/
theorem run_zeros_own {P : Program} {w : World} {t tn e : TypeId} {base g i cap k bytes : Nat} {z : Value} {R : List (List Value)} (hO : Own w base e k (.slice (some ⟨g, 0, none⟩) i cap) R) (ht : P.underlying t = some (.slice e)) (htn : P.underlying tn = some (.int .i64)) (hinfo : (P.info? e).map (fun i => (i.zero, i.size, i.bytes)) = some (some z, k, bytes)) (hzs : z.cells.size = k) (hk0 : 0 < k)
    (m : Nat) (h0 : 0 < m) (hroom : cap < i + m) (hbig : (i + m) * bytes ≤ 140737488355328) (hby : 0 < bytes) (hbase : base ≤ w.heap.size) :
    ∃ (G : Nat) (w' : World) (Z : List (List Value)), (∀ ty, (Builtin.append_ #[t, tn] ty #[.slice (some ⟨g, 0, none⟩) i cap, .int .i64 m]).run P w = .ok (.slice (some ⟨w.heap.size, 0, none⟩) (i + m) G) w') ∧ i + m ≤ G ∧ G ≤ maxLen ∧ Z.length = m ∧ Own w' base e k (.slice (some ⟨w.heap.size, 0, none⟩) (i + m) G) (R ++ Z) ∧ Below w.heap.size w w' := by
  obtain ⟨i0, hi, hz0, hz1, hz2⟩ := info_parts hinfo
  obtain ⟨l1, l2, l3, l4, cur, l5, l6, l7⟩ := hO.laidAt
  have hle : (i + m) ≤ 140737488355328 := Nat.le_trans (Nat.le_mul_of_pos_right _ hby) hbig
  have hold : (Builtin.firstCells i0.size i (.slice (some ⟨g, 0, none⟩) i cap)).run P w.drew = .ok R.flatten.toArray w.drew := by
    rw [hz1]
    refine run_firstCells_some w.drew k i ⟨g, 0, none⟩ i cap R.flatten (by rw [flatten_len hO.rows, l1]) (fun j v hj => ?_)
    have := hO.tab_of.flat (Below.refl _ _) hk0 hO.rows j v hj
    exact this
  have hG1 := grownCap_ge w (i + m) cap e
  have hG2 := grownCap_le_maxLen w (i + m) cap e (by unfold maxLen; omega)
  have hrun := fun ty => Lib.run_append_grow_zeros w t tn ty e i0 z .i64 .i64 ht htn hi hz0 (some ⟨g, 0, none⟩) i cap R.flatten hold m h0 (by rw [hz1]; exact hk0) hroom (by omega) (by rw [hz2]; have := Nat.le_trans (Nat.mul_le_mul_right bytes (Nat.le_add_left m i)) hbig; omega) (by rw [hz2]; exact growslice_fits hroom hbig)
  generalize grownCap w (i + m) cap e = G at *
  have hzc : ∀ q, (Builtin.zeroCells z.cells q).size = q * k := fun q => by rw [← hzs]; simp [Builtin.zeroCells]
  obtain ⟨Z, hZ1, hZ2, hZ3⟩ := chunks k m (Builtin.zeroCells z.cells m).toList (by rw [Array.length_toList, hzc])
  refine ⟨G, _, Z, hrun, hG1, hG2, hZ1, ?_, ((Below.refl _ _).drew).alloc (Nat.le_refl _) _⟩
  refine Own.ofBlock (by rw [List.length_append, l1, hZ1]) (fun r hr => ?_) hbase (MapKept.heap_alloc w.drew _).1 hG1 hG2 ?_ ?_
  · rcases List.mem_append.1 hr with hr | hr
    · exact hO.rows r hr
    · exact hZ2 r hr
  · rw [Array.size_append, Array.size_append, hzc, hzc, List.size_toArray, flatten_len hO.rows, l1, ← Nat.add_mul, ← Nat.add_mul]
    congr 1
    omega
  · rw [Array.toList_append, Array.toList_append, List.toList_toArray, List.flatten_append, hZ3]
    exact List.take_left' (by rw [List.length_append, flatten_len hO.rows, l1, Array.length_toList, hzc, Nat.add_mul])
end Go.Proofs.YtffgoekdjcempaaGreat
