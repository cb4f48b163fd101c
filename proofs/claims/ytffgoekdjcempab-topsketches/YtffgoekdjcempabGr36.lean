/- Texts joined: CopyRows, CopyInto, InfoCounters. -/
import Derived.Test.YtffgoekdjcempabGr13
import Derived.Laws.CopyOwn
import Derived.Lib.AppendZerosOnto
import Derived.Test.YtffgoekdjcempabGr4
/- 'copy' of a whole slice into a slice of the call's own that is as long, for elements of any number of cells. For every program; no Go text in sight. -/
namespace Go.Proofs.Ytffgoekdjcempab
open Go.RowKit

theorem run_copy_whole {P : Program} (w : World) (dT sT ty elem : TypeId) (g n k dCap : Nat) (a : Addr) (sCap : Nat) (cur : Array Value) (t : TypeId) (cs : List Value)
    (hu : P.underlying dT = some (.slice elem)) (hs : (P.info? elem).map (·.size) = some k) (hg : w.heap[g]? = some (.cells cur t (0, 0))) (hn : cs.length = n * k)
    (hsrc : ∀ j v, cs[j]? = some v → w.cell? (a.add j) = some v) (hfit : cs.length ≤ cur.size) (h1 : ∀ v ∈ cs, v.oneCell' = true) :
    (Builtin.copy_ #[dT, sT] ty #[.slice (some ⟨g, 0, none⟩) n dCap, .slice (some a) n sCap]).run P w = .ok (goInt n) (w.setRow g (cs ++ cur.toList.drop cs.length).toArray) := by
  have hl := run_loadCells_list (P := P) w a cs hsrc
  have hst := run_storeCells_at P g 0 t cs 0 cur w hg (by simpa using hfit) h1
  simp only [Nat.add_zero, Nat.zero_add, List.take_zero, List.nil_append] at hst
  cases hq : P.info? elem with
  | none => simp [hq] at hs
  | some i =>
    have hi : i.size = k := by simpa [hq] using hs
    simp [Builtin.copy_, run_underlying hu, Builtin.lenOf, Builtin.firstCells, sizeOf, typeInfo, hq, hi, ← hn, hl, hst]

/-- the row of the call's own slice is as if it had been made so -/
theorem Own.laid {w : World} {base : Nat} {e : TypeId} {k g n cap : Nat} {R R' : List (List Value)} (h : Own w base e k (.slice (some ⟨g, 0, none⟩) n cap) R) (hl : R'.length = n) (hr : ∀ r ∈ R', r.length = k) :
    ∃ cur, w.heap[g]? = some (.cells cur e (0, 0)) ∧ R'.flatten.length ≤ cur.size ∧ Own (w.setRow g (R'.flatten ++ cur.toList.drop R'.flatten.length).toArray) base e k (.slice (some ⟨g, 0, none⟩) n cap) R' := by
  obtain ⟨⟨hxl, hv⟩, hR⟩ := h
  rcases hv with ⟨h0, _⟩ | ⟨g', cap', cur, h0, hg, hcur, hle, hm, hsz, htk⟩
  · cases h0
  simp only [Value.slice.injEq, Option.some.injEq, Addr.mk.injEq, and_true] at h0
  obtain ⟨rfl, hn, rfl⟩ := h0
  have hf := flatten_len hr
  rw [hl] at hf
  have hfit : R'.flatten.length ≤ cur.size := by rw [hf, hsz, hn]; exact Nat.mul_le_mul_right _ hle
  refine ⟨cur, hcur, hfit, ⟨⟨by rw [hf, hl], Or.inr ⟨g, cap, _, by rw [hl], hg, setRow_heap w g cur _ e _ hcur, by rw [hl, hn]; exact hle, hm, ?_, ?_⟩⟩, hr⟩⟩
  · have e1 : cur.toList.length = cur.size := Array.length_toList
    rw [List.size_toArray, List.length_append, List.length_drop]; omega
  · simp only
    rw [hl, ← hf, List.take_append_of_le_length (Nat.le_refl _), List.take_length]

theorem wpList_copy_rows {P : Program} {w : World} {ops : Array Oper} {rest : List Oper} {o : Oper} {a : Act} {Q : Exit → Act → World → Prop} (hgd : o.guard = none) (d s : Operand) (dT sT : TypeId)
    (ho : o.op = .call { callee := .builtin .copy, args := #[d, s], argTypes := #[dT, sT] }) (elem : TypeId) (k : Nat) (hu : P.underlying dT = some (.slice elem)) (hsz : (P.info? elem).map (·.size) = some k) (hk : 0 < k)
    (base g n dCap : Nat) (R : List (List Value)) (hO : Own w base elem k (.slice (some ⟨g, 0, none⟩) n dCap) R)
    (ad : Option Addr) (sCap : Nat) (R' : List (List Value)) (hT : Tab w ad n sCap k R') (hr : ∀ r ∈ R', r.length = k) (h1 : ∀ u ∈ R'.flatten, u.oneCell' = true)
    (hd : a.eval d = .slice (some ⟨g, 0, none⟩) n dCap) (hs : a.eval s = .slice ad n sCap)
    (h : ∀ w', Own w' base elem k (.slice (some ⟨g, 0, none⟩) n dCap) R' → w.grownBy w' (some g) → wpList P ops Q rest (a.put o.dst (goInt n)) w') : wpList P ops Q (o :: rest) a w := by
  refine wpList_plain hgd fun K hK => ?_
  cases ad with
  | none =>
    obtain ⟨rfl, rfl⟩ := hT.nil_of
    have hc := hT.hnil rfl
    subst hc
    have hrun := run_copy_nil P w dT sT o.type elem ⟨g, 0, none⟩ 0 dCap hu (by cases hq : P.info? elem with | none => simp [hq] at hsz | some i => rfl)
    have e : R = [] := List.length_eq_zero_iff.1 (by
      obtain ⟨⟨_, hv⟩, _⟩ := hO
      rcases hv with ⟨h0, _⟩ | ⟨g', cap', cur, h0, _⟩
      · cases h0
      · simp only [Value.slice.injEq] at h0; exact h0.2.1.symm)
    subst e
    unfold Oper.wp
    simp [execOp, ho, resolve, invoke, builtin, hd, hs, hrun, Result.andThen]
    exact hK _ _ (h w hO ⟨rfl, rfl, rfl, Nat.le_refl _, fun _ _ _ => rfl⟩)
  | some ad =>
    obtain ⟨cur, hcur, hfit, hO'⟩ := hO.laid hT.hlen hr
    have hrun := run_copy_whole (P := P) w dT sT o.type elem g n k dCap ad sCap cur elem R'.flatten hu hsz hcur (by rw [flatten_len hr, hT.hlen]) (hT.flat (Below.refl _ _) hk hr) hfit h1
    unfold Oper.wp
    simp [execOp, ho, resolve, invoke, builtin, hd, hs, hrun, Result.andThen]
    rw [show (List.map List.length R').sum = R'.flatten.length from List.length_flatten.symm]
    refine hK _ _ (h _ hO' ⟨rfl, rfl, rfl, by simp [World.setRow], fun j _ hne => setRow_other w g j _ (fun e => hne (by rw [e]))⟩)
end Go.Proofs.Ytffgoekdjcempab

/- 'copy' of rows into a place of a slice of the call's own, for elements of any number of cells; parts of such a slice, and its spare room. For every program; no Go text in sight. -/
namespace Go.Proofs.Ytffgoekdjcempab
open Go.RowKit

/-- cells in rows -/
theorem chunks {α : Type} (k : Nat) : ∀ (m : Nat) (F : List α), F.length = m * k → ∃ Z : List (List α), Z.length = m ∧ (∀ r ∈ Z, r.length = k) ∧ Z.flatten = F
  | 0, F, h => ⟨[], rfl, by simp, by rw [Nat.zero_mul] at h; rw [List.eq_nil_of_length_eq_zero h]; rfl⟩
  | m + 1, F, h => by
    rw [Nat.succ_mul] at h
    obtain ⟨Z, h1, h2, h3⟩ := chunks k m (F.drop k) (by rw [List.length_drop]; omega)
    refine ⟨F.take k :: Z, by rw [List.length_cons, h1], fun r hr => ?_, by rw [List.flatten_cons, h3, List.take_append_drop]⟩
    rcases List.mem_cons.1 hr with rfl | hr
    · rw [List.length_take]; omega
    · exact h2 r hr
theorem flatten_take {k : Nat} : ∀ {R : List (List Value)} (i : Nat), (∀ r ∈ R, r.length = k) → i ≤ R.length → (R.take i).flatten = R.flatten.take (i * k)
  | R, 0, _, _ => by simp
  | [], i + 1, _, h => by simp at h
  | r :: R, i + 1, hR, h => by
    have hr := hR r (by simp)
    rw [List.take_succ_cons, List.flatten_cons, List.flatten_cons, flatten_take i (fun q hq => hR q (by simp [hq])) (by simpa using h), Nat.succ_mul, Nat.add_comm (i * k) k, ← hr, List.take_append, List.take_of_length_le (Nat.le_add_right _ _), Nat.add_sub_cancel_left]
theorem flatten_drop {k : Nat} : ∀ {R : List (List Value)} (i : Nat), (∀ r ∈ R, r.length = k) → i ≤ R.length → (R.drop i).flatten = R.flatten.drop (i * k)
  | R, 0, _, _ => by simp
  | [], i + 1, _, h => by simp at h
  | r :: R, i + 1, hR, h => by
    have hr := hR r (by simp)
    rw [List.drop_succ_cons, List.flatten_cons, flatten_drop i (fun q hq => hR q (by simp [hq])) (by simpa using h), Nat.succ_mul, Nat.add_comm (i * k) k, ← hr, List.drop_append, List.drop_of_length_le (Nat.le_add_right _ _), Nat.add_sub_cancel_left, List.nil_append]
/-- an own slice that has a block -/
theorem Own.laidAt {w : World} {base : Nat} {e : TypeId} {k g n cap : Nat} {R : List (List Value)} (h : Own w base e k (.slice (some ⟨g, 0, none⟩) n cap) R) :
    R.length = n ∧ base ≤ g ∧ n ≤ cap ∧ cap ≤ maxLen ∧ ∃ cur, w.heap[g]? = some (.cells cur e (0, 0)) ∧ cur.size = cap * k ∧ cur.toList.take (n * k) = R.flatten := by
  rcases h.own.2 with ⟨h0, _⟩ | ⟨g', cap', cur, h0, hg, hcur, hle, hm, hsz, htk⟩
  · cases h0
  · simp only [Value.slice.injEq, Option.some.injEq, Addr.mk.injEq, and_true] at h0
    obtain ⟨rfl, hn, rfl⟩ := h0
    rw [hn]
    exact ⟨rfl, hg, hle, hm, cur, hcur, hsz, htk⟩
theorem Own.ofBlock {w : World} {base : Nat} {e : TypeId} {k g n cap : Nat} {R : List (List Value)} {cur : Array Value} (hl : R.length = n) (hr : ∀ r ∈ R, r.length = k) (hg : base ≤ g) (hcur : w.heap[g]? = some (.cells cur e (0, 0))) (hle : n ≤ cap) (hm : cap ≤ maxLen) (hsz : cur.size = cap * k) (htk : cur.toList.take (n * k) = R.flatten) : Own w base e k (.slice (some ⟨g, 0, none⟩) n cap) R :=
  ⟨⟨flatten_len hr, Or.inr ⟨g, cap, cur, by rw [hl], hg, hcur, by rw [hl]; exact hle, hm, hsz, by rw [hl]; exact htk⟩⟩, hr⟩
/-- its beginning -/
theorem Own.ahead {w : World} {base : Nat} {e : TypeId} {k g n cap : Nat} {R : List (List Value)} (h : Own w base e k (.slice (some ⟨g, 0, none⟩) n cap) R) {i : Nat} (hi : i ≤ n) : Own w base e k (.slice (some ⟨g, 0, none⟩) i cap) (R.take i) := by
  obtain ⟨h1, h2, h3, h4, cur, h5, h6, h7⟩ := h.laidAt
  refine Own.ofBlock (by rw [List.length_take]; omega) (fun r hr => h.rows r (List.mem_of_mem_take hr)) h2 h5 (by omega) h4 h6 ?_
  rw [flatten_take i h.rows (by omega), ← h7, List.take_take, Nat.min_eq_left (Nat.mul_le_mul_right _ hi)]
/-- with one more element out of its spare room -/
theorem Own.roomy {w : World} {base : Nat} {e : TypeId} {k g n cap : Nat} {R : List (List Value)} (h : Own w base e k (.slice (some ⟨g, 0, none⟩) n cap) R) (hc : n + 1 ≤ cap) : ∃ r, r.length = k ∧ Own w base e k (.slice (some ⟨g, 0, none⟩) (n + 1) cap) (R ++ [r]) := by
  obtain ⟨h1, h2, h3, h4, cur, h5, h6, h7⟩ := h.laidAt
  have hcl : cur.toList.length = cap * k := by rw [Array.length_toList, h6]
  have hkc : (n + 1) * k ≤ cap * k := Nat.mul_le_mul_right _ hc
  have hs : (n + 1) * k = n * k + k := Nat.succ_mul _ _
  have hr : ((cur.toList.drop (n * k)).take k).length = k := by rw [List.length_take, List.length_drop, hcl]; omega
  refine ⟨(cur.toList.drop (n * k)).take k, hr, Own.ofBlock (by rw [List.length_append, h1]; rfl) (fun r hm => ?_) h2 h5 hc h4 h6 ?_⟩
  · rcases List.mem_append.1 hm with hm | hm
    · exact h.rows r hm
    · rw [List.mem_singleton.1 hm]; exact hr
  · rw [List.flatten_append, ← h7, hs, List.flatten_cons, List.flatten_nil, List.append_nil]
    exact List.take_add
/-- rows that are copied into it, from row i on -/
theorem run_copy_own {P : Program} {w : World} {dT sT e : TypeId} {base g n cap k : Nat} {R : List (List Value)} (hO : Own w base e k (.slice (some ⟨g, 0, none⟩) n cap) R) (hu : P.underlying dT = some (.slice e)) (hs : (P.info? e).map (·.size) = some k)
    (i m dn sn : Nat) (a : Addr) (N : List (List Value)) (hm : Nat.min sn dn = m) (hN : N.length = m) (hNk : ∀ r ∈ N, r.length = k) (hsrc : ∀ j v, N.flatten[j]? = some v → w.cell? (a.add j) = some v) (h1 : ∀ u ∈ N.flatten, u.oneCell' = true) (him : i + m ≤ n) :
    ∃ w', (∀ ty dc sc, (Builtin.copy_ #[dT, sT] ty #[.slice (some ⟨g, i * k, none⟩) dn dc, .slice (some a) sn sc]).run P w = .ok (goInt m) w') ∧ Own w' base e k (.slice (some ⟨g, 0, none⟩) n cap) (R.take i ++ N ++ R.drop (i + m)) ∧ w.grownBy w' (some g) := by
  obtain ⟨l1, l2, l3, l4, cur, l5, l6, l7⟩ := hO.laidAt
  have hcl : cur.toList.length = cap * k := by rw [Array.length_toList, l6]
  have hNl : N.flatten.length = m * k := by rw [flatten_len hNk, hN]
  have hik : i * k + m * k ≤ n * k := by rw [← Nat.add_mul]; exact Nat.mul_le_mul_right _ him
  have hnk : n * k ≤ cap * k := Nat.mul_le_mul_right _ l3
  have hl := run_loadCells_list (P := P) w a N.flatten hsrc
  have hst := run_storeCells_at P g (i * k) e N.flatten 0 cur w l5 (by rw [Nat.add_zero, hNl, l6]; omega) h1
  simp only [Nat.add_zero] at hst
  rw [hNl] at hl
  refine ⟨w.setRow g (cur.toList.take (i * k) ++ N.flatten ++ cur.toList.drop (i * k + N.flatten.length)).toArray, fun ty dc sc => ?_, ?_, ⟨rfl, rfl, rfl, by simp [World.setRow], fun j _ hne => setRow_other w g j _ (fun e => hne (by rw [e]))⟩⟩
  · cases hq : P.info? e with
    | none => simp [hq] at hs
    | some i0 =>
      have hi : i0.size = k := by simpa [hq] using hs
      simp [Builtin.copy_, run_underlying hu, Builtin.lenOf, Builtin.firstCells, sizeOf, typeInfo, hq, hi, hm, hl, hst]
  · refine Own.ofBlock (by rw [List.length_append, List.length_append, List.length_take, List.length_drop, hN, l1]; omega) (fun r hr => ?_) l2 (setRow_heap w g cur _ e _ l5) l3 l4 ?_ ?_
    · rcases List.mem_append.1 hr with hr | hr
      · rcases List.mem_append.1 hr with hr | hr
        · exact hO.rows r (List.mem_of_mem_take hr)
        · exact hNk r hr
      · exact hO.rows r (List.mem_of_mem_drop hr)
    · rw [List.size_toArray, List.length_append, List.length_append, List.length_take, List.length_drop, hNl, hcl]; omega
    · rw [List.toList_toArray, List.flatten_append, List.flatten_append, flatten_take i hO.rows (by omega), flatten_drop (i + m) hO.rows (by omega), ← l7, hNl, Nat.add_mul]
      rw [List.take_take, Nat.min_eq_left (by omega), List.drop_take]
      have e1 : (cur.toList.take (i * k) ++ N.flatten).length = i * k + m * k := by rw [List.length_append, List.length_take, hNl, hcl]; omega
      rw [List.take_append, e1, List.take_of_length_le (by rw [e1]; exact hik)]
/-- an append of a make that finds no room: the elements that were there, and as many more of any value -/
theorem run_zeros_own {P : Program} {w : World} {t tn e : TypeId} {base g i cap k bytes : Nat} {z : Value} {R : List (List Value)} (hO : Own w base e k (.slice (some ⟨g, 0, none⟩) i cap) R) (ht : P.underlying t = some (.slice e)) (htn : P.underlying tn = some (.int .i64)) (hinfo : (P.info? e).map (fun i => (i.zero, i.size, i.bytes)) = some (some z, k, bytes)) (hzs : z.cells.size = k) (hk0 : 0 < k)
    (m : Nat) (h0 : 0 < m) (hroom : cap < i + m) (hbig : (i + m) * bytes ≤ 140737488355328) (hby : 0 < bytes) (hbase : base ≤ w.heap.size) :
    ∃ (G : Nat) (w' : World) (Z : List (List Value)), (∀ ty, (Builtin.append_ #[t, tn] ty #[.slice (some ⟨g, 0, none⟩) i cap, .int .i64 m]).run P w = .ok (.slice (some ⟨w.heap.size, 0, none⟩) (i + m) G) w') ∧ i + m ≤ G ∧ G ≤ maxLen ∧ Z.length = m ∧ Own w' base e k (.slice (some ⟨w.heap.size, 0, none⟩) (i + m) G) (R ++ Z) ∧ Below w.heap.size w w' := by
  obtain ⟨i0, hi, hz0, hz1, hz2⟩ := info_parts hinfo
  obtain ⟨l1, l2, l3, l4, cur, l5, l6, l7⟩ := hO.laidAt
  have hle : (i + m) ≤ 140737488355328 := Nat.le_trans (Nat.le_mul_of_pos_right _ hby) hbig
  have hold : (Builtin.firstCells i0.size i (.slice (some ⟨g, 0, none⟩) i cap)).run P w.drew = .ok R.flatten.toArray w.drew := by
    rw [hz1]
    refine run_firstCells_some w.drew k i ⟨g, 0, none⟩ i cap R.flatten (by rw [flatten_len hO.rows, l1]) (fun j v hj => ?_)
    have := hO.tab_of.flat (Below.refl _ _) hk0 hO.rows j v hj
    exact this
  have hG1 := grownCap_ge w (i + m) cap e
  have hG2 := grownCap_le_maxLen w (i + m) cap e (by unfold maxLen; omega)
  have hrun := fun ty => Lib.run_append_grow_zeros w t tn ty e i0 z .i64 .i64 ht htn hi hz0 (some ⟨g, 0, none⟩) i cap R.flatten hold m h0 (by rw [hz1]; exact hk0) hroom (by omega) (by rw [hz2]; have := Nat.le_trans (Nat.mul_le_mul_right bytes (Nat.le_add_left m i)) hbig; omega) (by rw [hz2]; exact growslice_fits hroom hbig)
  generalize grownCap w (i + m) cap e = G at *
  have hzc : ∀ q, (Builtin.zeroCells z.cells q).size = q * k := fun q => by rw [← hzs]; simp [Builtin.zeroCells]
  obtain ⟨Z, hZ1, hZ2, hZ3⟩ := chunks k m (Builtin.zeroCells z.cells m).toList (by rw [Array.length_toList, hzc])
  refine ⟨G, _, Z, hrun, hG1, hG2, hZ1, ?_, ((Below.refl _ _).drew).alloc (Nat.le_refl _) _⟩
  refine Own.ofBlock (by rw [List.length_append, l1, hZ1]) (fun r hr => ?_) hbase (MapKept.heap_alloc w.drew _).1 hG1 hG2 ?_ ?_
  · rcases List.mem_append.1 hr with hr | hr
    · exact hO.rows r hr
    · exact hZ2 r hr
  · rw [Array.size_append, Array.size_append, hzc, hzc, List.size_toArray, flatten_len hO.rows, l1, ← Nat.add_mul, ← Nat.add_mul]
    congr 1
    omega
  · rw [Array.toList_append, Array.toList_append, List.toList_toArray, List.flatten_append, hZ3]
    exact List.take_left' (by rw [List.length_append, flatten_len hO.rows, l1, Array.length_toList, hzc, Nat.add_mul])
end Go.Proofs.Ytffgoekdjcempab

/- What the program's table says of the element type api.Counter. -/
namespace Go.Proofs.Ytffgoekdjcempab
open Go.RowKit

theorem info_counter : (Try.prog.info? 36).map (fun i => (i.zero, i.size, i.bytes)) = some (some (.agg #[.int .i64 0, .int .i64 0]), 2, 16) := by kernel_rfl

end Go.Proofs.Ytffgoekdjcempab
