/- Texts joined: Own, OwnMore. -/
import Derived.Test.YtffgoekdjcempaaGreatShapes
import Derived.OwnWalk
import Derived.Maps.AppendAt
import Derived.Laws.OwnMore
import Derived.Lib.AppendZeros
/- A slice that the call itself makes and appends to: what it holds, row by row. For every program; no Go text in sight. -/
namespace Go.Proofs.YtffgoekdjcempaaGreat
open Go.RowKit

/-- v is the call's own slice (its block from 'base' on) whose elements are the rows R, of k cells each -/
structure Own (w : World) (base : Nat) (e : TypeId) (k : Nat) (v : Value) (R : List (List Value)) : Prop where
  own : w.ownsRow base e k v R.length R.flatten
  rows : ∀ r ∈ R, r.length = k

theorem flatten_len {k : Nat} {R : List (List Value)} (h : ∀ r ∈ R, r.length = k) : R.flatten.length = R.length * k := by
  induction R with
  | nil => simp
  | cons r R ih =>
    rw [List.flatten_cons, List.length_append, h r (by simp), ih (fun r hr => h r (by simp [hr])), List.length_cons, Nat.succ_mul, Nat.add_comm]
theorem flatten_get {k : Nat} {R : List (List Value)} (h : ∀ r ∈ R, r.length = k) {i : Nat} {r : List Value} (hr : R[i]? = some r) {j : Nat} {u : Value} (hu : r[j]? = some u) : R.flatten[i * k + j]? = some u := by
  induction R generalizing i with
  | nil => simp at hr
  | cons q R ih =>
    have hq := h q (by simp)
    cases i with
    | zero =>
      simp at hr
      subst hr
      have hj : j < q.length := (List.getElem?_eq_some_iff.1 hu).1
      rw [List.flatten_cons, Nat.zero_mul, Nat.zero_add, List.getElem?_append_left hj, hu]
    | succ i =>
      simp at hr
      have := ih (fun r hr => h r (by simp [hr])) hr
      rw [List.flatten_cons, List.getElem?_append_right (by rw [hq, Nat.succ_mul]; omega), hq, show (i + 1) * k + j - k = i * k + j from by rw [Nat.succ_mul]; omega, this]

/-- all cells of a slice that came in, one behind the other -/
theorem Tab.flat {w w' : World} {ad : Addr} {len cap k : Nat} {R : List (List Value)} (h : Tab w (some ad) len cap k R) (hb : Below w.heap.size w w') (hk : 0 < k) (hr : ∀ r ∈ R, r.length = k) : ∀ j u, R.flatten[j]? = some u → w'.cell? (ad.add j) = some u := by
  intro j u hu
  have hj : j < R.length * k := by rw [← flatten_len hr]; exact (List.getElem?_eq_some_iff.1 hu).1
  have hi : j / k < R.length := Nat.div_lt_of_lt_mul (by rw [Nat.mul_comm]; exact hj)
  have hri : R[j / k]? = some (R[j / k]'hi) := List.getElem?_eq_getElem hi
  have hlen := hr _ (List.getElem_mem hi)
  have hju : (R[j / k]'hi)[j % k]? = some ((R[j / k]'hi)[j % k]'(by rw [hlen]; exact Nat.mod_lt _ hk)) := List.getElem?_eq_getElem _
  obtain ⟨b, off, ha, hlt, hc⟩ := h.row hb hri
  have e := flatten_get hr hri hju
  have ej : j / k * k + j % k = j := by rw [Nat.mul_comm]; exact Nat.div_add_mod j k
  rw [ej, hu] at e
  have hcell := hc (j % k) _ hju
  rw [ej, ← Option.some.inj e] at hcell
  obtain rfl := Option.some.inj ha
  have e1 : (Addr.mk b off none).add j = ⟨b, off + j, none⟩ := by
    unfold Addr.add
    by_cases hz : j = 0
    · rw [if_pos hz, hz, Nat.add_zero]
    · rw [if_neg hz]
  rw [e1]
  exact hcell
theorem Tab.nil_of {w : World} {len cap k : Nat} {R : List (List Value)} (h : Tab w none len cap k R) : len = 0 ∧ R = [] := by
  by_cases hl : 0 < len
  · obtain ⟨b, off, ha, _⟩ := h.hspot hl
    cases ha
  · have e : len = 0 := by omega
    exact ⟨e, List.length_eq_zero_iff.1 (h.hlen.trans e)⟩
theorem rows_of {α : Type} {cells : α → List Value} {k : Nat} (h : ∀ y, (cells y).length = k) (l : List α) : ∀ r ∈ l.map cells, r.length = k := by
  intro r hr
  obtain ⟨y, _, rfl⟩ := List.mem_map.1 hr
  exact h y
theorem one_of {α : Type} {cells : α → List Value} (h : ∀ y, ∀ u ∈ cells y, u.oneCell' = true) (l : List α) : ∀ u ∈ (l.map cells).flatten, u.oneCell' = true := by
  intro u hu
  obtain ⟨r, hr, hu'⟩ := List.mem_flatten.1 hu
  obtain ⟨y, _, rfl⟩ := List.mem_map.1 hr
  exact h y u hu'
theorem Own.nil (w : World) (base : Nat) (e : TypeId) (k : Nat) : Own w base e k (.slice none 0 0) [] :=
  ⟨World.ownsRow_nil w base e k, fun r h => by cases h⟩
theorem Own.empty (w : World) (e : TypeId) (k : Nat) : Own (w.alloc (.cells #[] e)) w.heap.size e k (.slice (some ⟨w.heap.size, 0, none⟩) 0 0) [] := by
  refine ⟨⟨by simp, .inr ⟨w.heap.size, 0, #[], rfl, Nat.le_refl _, ?_, Nat.le_refl _, Nat.zero_le _, by simp, by simp⟩⟩, fun r h => by cases h⟩
  exact (MapKept.heap_alloc w _).1
theorem Own.made {w : World} {base : Nat} {e : TypeId} {k : Nat} {v : Value} (h : w.ownsRow base e k v 0 []) : Own w base e k v [] :=
  ⟨h, fun r h => by cases h⟩
theorem Own.alloc {w : World} {base : Nat} {e : TypeId} {k : Nat} {v : Value} {R : List (List Value)} (h : Own w base e k v R) (o : Obj) : Own (w.alloc o) base e k v R := ⟨h.own.alloc o, h.rows⟩
theorem Own.below {w w' : World} {base : Nat} {e : TypeId} {k : Nat} {v : Value} {R : List (List Value)} (h : Own w base e k v R) (hb : Below w.heap.size w w') : Own w' base e k v R := by
  refine ⟨h.own.kept (row := none) ⟨hb.os, hb.tape, hb.output, hb.size, fun j hj _ => hb.block j hj⟩ ?_, h.rows⟩
  cases e : v.ownBlock with
  | none => exact .inl rfl
  | some g => exact .inr (by simp)
theorem Own.tab {w : World} {base : Nat} {e : TypeId} {k : Nat} {v : Value} {R : List (List Value)} (h : Own w base e k v R) : ∃ a cap, v = .slice a R.length cap ∧ Tab w a R.length cap k R := by
  obtain ⟨⟨hl, hv⟩, hr⟩ := h
  rcases hv with ⟨rfl, hn⟩ | ⟨g, cap, cur, rfl, hg, hcur, hle, hm, hsz, htk⟩
  · obtain rfl : R = [] := List.length_eq_zero_iff.1 hn
    exact ⟨none, 0, rfl, rfl, Nat.le_refl _, Nat.zero_le _, fun _ => rfl, fun h => absurd h (by simp)⟩
  · have hlt : g < w.heap.size := (Array.getElem?_eq_some_iff.1 hcur).1
    refine ⟨some ⟨g, 0, none⟩, cap, rfl, rfl, hle, hm, fun h => (by cases h), fun _ => ⟨g, 0, rfl, hlt, fun i r hri j u hu => ?_⟩⟩
    have e1 := flatten_get hr hri hu
    rw [← htk] at e1
    have hlt' : i * k + j < R.length * k := by
      have := (List.getElem?_eq_some_iff.1 e1).1
      rw [List.length_take] at this
      omega
    rw [List.getElem?_take_of_lt hlt', Array.getElem?_toList] at e1
    show w.cell? ⟨g, 0 + (i * k + j), none⟩ = some u
    rw [Nat.zero_add]
    simp only [World.cell?, hcur]
    exact e1
theorem Own.tab_of {w : World} {base : Nat} {e : TypeId} {k : Nat} {a : Option Addr} {n cap : Nat} {R : List (List Value)} (h : Own w base e k (.slice a n cap) R) : Tab w a n cap k R := by
  obtain ⟨a', cap', e', T⟩ := h.tab
  simp only [Value.slice.injEq] at e'
  obtain ⟨rfl, rfl, rfl⟩ := e'
  exact T
/-- what lies below the base is as it was, behind an append too -/
theorem Own.under {w0 w w' : World} {B base : Nat} {e : TypeId} {k : Nat} {v : Value} {R : List (List Value)} (h : Own w base e k v R) (hb : Below B w0 w) (hB : B ≤ base) (hs : B ≤ w.heap.size) (hg : w.grownBy w' v.ownBlock) : Below B w0 w' :=
  hb.grown hg hs (fun j hj => Nat.le_trans hB (h.own.lt j hj).1)

/-- the call returns a slice of its own with these rows; nothing old has turned -/
def RetRows (w : World) (e : TypeId) (k : Nat) (R : List (List Value)) (en : Ending) (w' : World) : Prop := ∃ v, en = .returned v ∧ Own w' w.heap.size e k v R ∧ Below w.heap.size w w'

/-- 'append(s, x...)' at the operation, for the walk: s the call's own, x a slice of rows that lies elsewhere -/
theorem wpList_append_rows {P : Program} (w : World) {ops : Array Oper} {rest : List Oper} {o : Oper} {a : Act} {Q : Exit → Act → World → Prop} (hgd : o.guard = none) (s x : Operand) (t : TypeId)
    (ho : o.op = .call { callee := .builtin .append, args := #[s, x], argTypes := #[t, t] })
    (base : Nat) (e : TypeId) (z : Value) (k bytes : Nat) (ht : P.underlying t = some (.slice e)) (hinfo : (P.info? e).map (fun i => (i.zero, i.size, i.bytes)) = some (some z, k, bytes)) (hzs : z.cells.size = k) (hsz : 0 < k)
    (v : Value) (R : List (List Value)) (hs : a.eval s = v) (hown : Own w base e k v R)
    (ad : Addr) (m c : Nat) (N : List (List Value)) (hm : N.length = m) (hx : a.eval x = .slice (some ad) m c) (hN : ∀ r ∈ N, r.length = k) (hnews : ∀ j u, N.flatten[j]? = some u → w.cell? (ad.add j) = some u) (h1 : ∀ u ∈ N.flatten, u.oneCell' = true)
    (h63 : (R.length + m) * bytes ≤ 140737488355328) (hby : 0 < bytes) (hbase : base ≤ w.heap.size)
    (h : ∀ v' w', Own w' base e k v' (R ++ N) → w.grownBy w' v.ownBlock → wpList P ops Q rest (a.put o.dst v') w') : wpList P ops Q (o :: rest) a w := by
  obtain ⟨i, hi, hz0, hz1, hz2⟩ := info_parts hinfo
  subst hm
  refine wpList_append_own w hgd s x t ho base e i z k bytes ht hi hz0 hz1 hz2 hzs hsz v R.length R.flatten hs hown.own ad N.length c N.flatten hx (flatten_len hN) hnews h1 ?_ ?_ hbase ?_
  · have := Nat.le_trans (Nat.le_mul_of_pos_right (R.length + N.length) hby) h63
    unfold maxLen; omega
  · exact h63
  · intro v' w' h2 h3 _
    refine h v' w' ⟨?_, ?_⟩ h3
    · rw [List.length_append, List.flatten_append]; exact h2
    · intro r hr
      rcases List.mem_append.1 hr with hr | hr
      · exact hown.rows r hr
      · exact hN r hr
/-- the same where x is a slice that came in, nil or not -/
theorem wpList_append_tab {P : Program} (w : World) {ops : Array Oper} {rest : List Oper} {o : Oper} {a : Act} {Q : Exit → Act → World → Prop} (hgd : o.guard = none) (s x : Operand) (t : TypeId)
    (ho : o.op = .call { callee := .builtin .append, args := #[s, x], argTypes := #[t, t] })
    (base : Nat) (e : TypeId) (z : Value) (k bytes : Nat) (ht : P.underlying t = some (.slice e)) (hinfo : (P.info? e).map (fun i => (i.zero, i.size, i.bytes)) = some (some z, k, bytes)) (hzs : z.cells.size = k) (hsz : 0 < k)
    (v : Value) (R : List (List Value)) (hs : a.eval s = v) (hown : Own w base e k v R)
    (ad : Option Addr) (m c : Nat) (N : List (List Value)) (w0 : World) (hT : Tab w0 ad m c k N) (hb : Below w0.heap.size w0 w) (hx : a.eval x = .slice ad m c) (hN : ∀ r ∈ N, r.length = k) (h1 : ∀ u ∈ N.flatten, u.oneCell' = true)
    (h63 : (R.length + m) * bytes ≤ 140737488355328) (hby : 0 < bytes) (hbase : base ≤ w.heap.size)
    (h : ∀ v' w', Own w' base e k v' (R ++ N) → w.grownBy w' v.ownBlock → wpList P ops Q rest (a.put o.dst v') w') : wpList P ops Q (o :: rest) a w := by
  cases ad with
  | none =>
    obtain ⟨hm, hNn⟩ := hT.nil_of
    have hc := hT.hnil rfl
    subst hm hNn hc
    obtain ⟨i, hi, hz0, hz1, hz2⟩ := info_parts hinfo
    refine Lib.wpList_append_run w hgd s x t t ho v (.slice none 0 0) hs hx v w (run_append_owned_none w base t o.type e i k ht hi v R.length R.flatten hown.own) ?_
    refine h v w (by rw [List.append_nil]; exact hown) ⟨rfl, rfl, rfl, Nat.le_refl _, fun _ _ _ => rfl⟩
  | some ad =>
    exact wpList_append_rows w hgd s x t ho base e z k bytes ht hinfo hzs hsz v R hs hown ad m c N hT.hlen hx hN (hT.flat hb hsz hN) h1 h63 hby hbase h
/-- the one row that the translation lays for 'append(s, x)' -/
theorem one_row (w : World) (r : List Value) (t : TypeId) (n : Nat) (hn : n = w.heap.size) : ∀ j u, [r].flatten[j]? = some u → (w.alloc (.cells r.toArray t)).cell? ((⟨n, 0, none⟩ : Addr).add j) = some u := by
  subst hn
  intro j u hj
  have hj' : r[j]? = some u := by simpa using hj
  have e : (⟨w.heap.size, 0, none⟩ : Addr).add j = ⟨w.heap.size, j, none⟩ := by
    unfold Addr.add
    by_cases h : j = 0
    · rw [if_pos h, h]
    · rw [if_neg h]; simp
  rw [e, World.cell?_alloc_at _ _ _ _ rfl]
  simpa using hj'

theorem Own.full {w : World} {base : Nat} {e : TypeId} {k : Nat} {v : Value} {n : Nat} {xs : List Value} {R : List (List Value)} (h : w.ownsRow base e k v n xs) (hR : R.length = n ∧ R.flatten = xs ∧ ∀ r ∈ R, r.length = k) : Own w base e k v R := by
  obtain ⟨h1, h2, h3⟩ := hR
  subst h1 h2
  exact ⟨h, h3⟩
theorem flat_ints (l : List Int) : (l.map iC).flatten = l.map (Value.int .i64) := by
  induction l with
  | nil => rfl
  | cons x l ih => rw [List.map_cons, List.flatten_cons, ih]; rfl
theorem made_ints (n : Nat) : ((List.replicate n (0 : Int)).map iC).length = n ∧ ((List.replicate n (0 : Int)).map iC).flatten = (madeCells (Value.int .i64 0).cells (n * 1)).toList ∧ ∀ r ∈ (List.replicate n (0 : Int)).map iC, r.length = 1 := by
  refine ⟨by simp, ?_, ?_⟩
  · rw [flat_ints, Nat.mul_one]
    apply List.ext_getElem?
    intro i
    simp [madeCells, Value.cells, List.getElem?_replicate]
    by_cases h : i < n
    · rw [if_pos h, List.getElem?_eq_getElem (by simpa using h)]
      simp [Nat.mod_one]
    · rw [if_neg h, List.getElem?_eq_none (by simpa using h)]
      rfl
  · intro r hr
    obtain ⟨x, _, rfl⟩ := List.mem_map.1 hr
    rfl
/-- a cell of the call's own slice: what it holds, and that it may be written -/
theorem Own.at_ {w : World} {base : Nat} {e : TypeId} {k : Nat} {g n cap : Nat} {R : List (List Value)} (h : Own w base e k (.slice (some ⟨g, 0, none⟩) n cap) R) {i j : Nat} {r : List Value} {u : Value} (hr : R[i]? = some r) (hu : r[j]? = some u) :
    w.cell? ⟨g, i * k + j, none⟩ = some u ∧ w.frozen? ⟨g, i * k + j, none⟩ = false ∧ base ≤ g ∧ g < w.heap.size := by
  obtain ⟨⟨hl, hv⟩, hR⟩ := h
  rcases hv with ⟨h0, _⟩ | ⟨g', cap', cur, h0, hg, hcur, hle, hm, hsz, htk⟩
  · cases h0
  · simp only [Value.slice.injEq, Option.some.injEq, Addr.mk.injEq, and_true] at h0
    obtain ⟨rfl, _, _⟩ := h0
    have e1 := flatten_get hR hr hu
    rw [← htk] at e1
    have hlt' : i * k + j < R.length * k := by
      have := (List.getElem?_eq_some_iff.1 e1).1
      rw [List.length_take] at this
      omega
    rw [List.getElem?_take_of_lt hlt', Array.getElem?_toList] at e1
    refine ⟨?_, ?_, hg, (Array.getElem?_eq_some_iff.1 hcur).1⟩
    · simp only [World.cell?, hcur]; exact e1
    · simp [World.frozen?, hcur]
theorem flatten_set {k : Nat} {R : List (List Value)} (h : ∀ r ∈ R, r.length = k) {i : Nat} {r : List Value} (hr : R[i]? = some r) {j : Nat} (hj : j < k) (v : Value) : (R.set i (r.set j v)).flatten = R.flatten.set (i * k + j) v := by
  induction R generalizing i with
  | nil => simp at hr
  | cons q R ih =>
    have hq := h q (by simp)
    cases i with
    | zero =>
      simp at hr
      subst hr
      rw [List.set_cons_zero, List.flatten_cons, List.flatten_cons, Nat.zero_mul, Nat.zero_add, List.set_append_left _ _ (by omega)]
    | succ i =>
      simp at hr
      rw [List.set_cons_succ, List.flatten_cons, List.flatten_cons, ih (fun r hr => h r (by simp [hr])) hr, List.set_append_right _ _ (by rw [hq, Nat.succ_mul]; omega), hq, show (i + 1) * k + j - k = i * k + j from by rw [Nat.succ_mul]; omega]
/-- a store into a cell of the call's own slice -/
theorem Own.set_ {w : World} {base : Nat} {e : TypeId} {k : Nat} {g n cap : Nat} {R : List (List Value)} (h : Own w base e k (.slice (some ⟨g, 0, none⟩) n cap) R) {i j : Nat} {r : List Value} (hr : R[i]? = some r) (hj : j < k) (v : Value) :
    Own (w.setCell ⟨g, i * k + j, none⟩ v) base e k (.slice (some ⟨g, 0, none⟩) n cap) (R.set i (r.set j v)) := by
  obtain ⟨⟨hl, hv⟩, hR⟩ := h
  have hrl : r.length = k := hR r (List.mem_of_getElem? hr)
  refine ⟨⟨?_, ?_⟩, ?_⟩
  · rw [flatten_set hR hr hj, List.length_set, List.length_set, hl]
  · right
    rcases hv with ⟨h0, _⟩ | ⟨g', cap', cur, h0, hg, hcur, hle, hm, hsz, htk⟩
    · cases h0
    · simp only [Value.slice.injEq, Option.some.injEq, Addr.mk.injEq, and_true] at h0
      obtain ⟨rfl, rfl, rfl⟩ := h0
      refine ⟨g, cap, cur.setIfInBounds (i * k + j) v, by rw [List.length_set], hg, heap_setCell_same w g _ cur e v hcur, by rw [List.length_set]; exact hle, hm, by simp [hsz], ?_⟩
      rw [flatten_set hR hr hj, ← htk, List.length_set, Array.toList_setIfInBounds, List.take_set]
  · intro q hq
    rcases List.mem_or_eq_of_mem_set hq with hq | rfl
    · exact hR q hq
    · rw [List.length_set, hrl]
theorem Own.set1 {w : World} {base : Nat} {e : TypeId} {g n cap : Nat} {R : List (List Value)} (h : Own w base e 1 (.slice (some ⟨g, 0, none⟩) n cap) R) {i : Nat} {u : Value} (hr : R[i]? = some [u]) (v : Value) :
    Own (w.setCell ⟨g, i, none⟩ v) base e 1 (.slice (some ⟨g, 0, none⟩) n cap) (R.set i [v]) := by
  have := h.set_ (j := 0) hr (by decide) v
  rw [Nat.mul_one, Nat.add_zero] at this
  exact this
theorem Own.at1 {w : World} {base : Nat} {e : TypeId} {g n cap : Nat} {R : List (List Value)} (h : Own w base e 1 (.slice (some ⟨g, 0, none⟩) n cap) R) {i : Nat} {u : Value} (hr : R[i]? = some [u]) :
    w.cell? ⟨g, i, none⟩ = some u ∧ w.frozen? ⟨g, i, none⟩ = false ∧ base ≤ g ∧ g < w.heap.size := by
  have := h.at_ (j := 0) hr rfl
  rw [Nat.mul_one, Nat.add_zero] at this
  exact this

theorem iC_len (y : Int) : (iC y).length = 1 := rfl
theorem bC_len (y : Bool) : (bC y).length = 1 := rfl
theorem sC_len (y : ByteArray) : (sC y).length = 1 := rfl
theorem ssC_len (y : ByteArray × ByteArray) : (ssC y).length = 2 := rfl
theorem iiC_len (y : Int × Int) : (iiC y).length = 2 := rfl
theorem siiC_len (y : ByteArray × Int × Int) : (siiC y).length = 3 := rfl
theorem iC_one (y : Int) : ∀ u ∈ iC y, u.oneCell' = true := by simp [iC, Value.oneCell']
theorem bC_one (y : Bool) : ∀ u ∈ bC y, u.oneCell' = true := by simp [bC, Value.oneCell']
theorem sC_one (y : ByteArray) : ∀ u ∈ sC y, u.oneCell' = true := by simp [sC, Value.oneCell']
theorem ssC_one (y : ByteArray × ByteArray) : ∀ u ∈ ssC y, u.oneCell' = true := by simp [ssC, Value.oneCell']
theorem iiC_one (y : Int × Int) : ∀ u ∈ iiC y, u.oneCell' = true := by simp [iiC, Value.oneCell']
theorem siiC_one (y : ByteArray × Int × Int) : ∀ u ∈ siiC y, u.oneCell' = true := by simp [siiC, Value.oneCell']

end Go.Proofs.YtffgoekdjcempaaGreat

/- More on slices that a call made itself: a lower base, stores beside them, blocks that an append leaves alone. -/
namespace Go.Proofs.YtffgoekdjcempaaGreat
open Go.ChangeShapes Go.WideShapes Go.ChangeAt Go.RowKit

theorem Own.base_le {w : World} {base B : Nat} {e : TypeId} {k : Nat} {v : Value} {R : List (List Value)} (h : Own w base e k v R) (hB : B ≤ base) : Own w B e k v R := by
  refine ⟨⟨h.own.1, ?_⟩, h.rows⟩
  rcases h.own.2 with h0 | ⟨g, cap, cur, h0, hg, hr⟩
  · exact Or.inl h0
  · exact Or.inr ⟨g, cap, cur, h0, Nat.le_trans hB hg, hr⟩
theorem Own.setCell {w : World} {base : Nat} {e : TypeId} {k : Nat} {v : Value} {R : List (List Value)} (h : Own w base e k v R) {a : Addr} (ha : a.block < base) (u : Value) : Own (w.setCell a u) base e k v R := ⟨ownsRow_setCell_below h.own ha u, h.rows⟩

theorem Own.drew {w : World} {base : Nat} {e : TypeId} {k : Nat} {v : Value} {R : List (List Value)} (h : Own w base e k v R) : Own w.drew base e k v R := ⟨h.own, h.rows⟩
theorem cell_blk {w : World} {b i : Nat} {cs : Array Value} {t : TypeId} {u : Value} (h : w.heap[b]? = some (.cells cs t (0, 0))) (hu : cs[i]? = some u) : w.cell? ⟨b, i, none⟩ = some u := by
  simp [World.cell?, h, hu]
theorem frozen_blk {w : World} {b i : Nat} {cs : Array Value} {t : TypeId} (h : w.heap[b]? = some (.cells cs t (0, 0))) : w.frozen? ⟨b, i, none⟩ = false := by
  simp [World.frozen?, h]
/-- an append leaves a block below its own slice as it was -/
theorem blk_grown {w wr w1 : World} {o o' : Obj} {base b : Nat} {e : TypeId} {k : Nat} {v : Value} {R : List (List Value)} (hO : Own wr base e k v R) (hg : (wr.alloc o).grownBy w1 v.ownBlock) (hb : b < base) (h : wr.heap[b]? = some o') : w1.heap[b]? = some o' := by
  have hlt : b < wr.heap.size := (Array.getElem?_eq_some_iff.1 h).1
  rw [hg.block b (by simp; omega) (fun e => by have := (hO.own.lt b e.symm).1; omega), Below.heap_alloc _ _ _ hlt]
  exact h

end Go.Proofs.YtffgoekdjcempaaGreat
