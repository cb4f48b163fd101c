/- Texts joined: Shapes, Own. -/
import Derived.Test.YtffgoekdjcempabGr1
import Derived.ChangeOld
import Derived.Deep.Slices
import Derived.Deep.Fields
import Derived.ChangeSame
import Derived.Lib.SmallJoins
import Derived.SizedLaws
import Derived.OwnWalk
import Derived.Maps.AppendAt
import Derived.Laws.OwnMore
import Derived.Lib.AppendZeros
/- What a walk is told of an argument that is a slice (of numbers, texts, structs, slices) or a struct: for every program; no Go text in sight. -/
namespace Go.Proofs.Ytffgoekdjcempab
open Go.ChangeShapes Go.WideShapes Go.Deep Go.RowKit Go.Joins

/-- a slice whose elements are the rows R, of k cells each -/
structure Tab (w : World) (a : Option Addr) (len cap k : Nat) (R : List (List Value)) : Prop where
  hlen : R.length = len
  hle : len ≤ cap
  hmax : cap ≤ maxLen
  hnil : a = none → cap = 0
  hspot : 0 < len → ∃ b off, a = some ⟨b, off, none⟩ ∧ b < w.heap.size ∧ ∀ i r, R[i]? = some r → ∀ j u, r[j]? = some u → w.cell? ⟨b, off + (i * k + j), none⟩ = some u

theorem Tab.below {w w' : World} {a : Option Addr} {len cap k : Nat} {R : List (List Value)} (h : Tab w a len cap k R) (hb : Below w.heap.size w w') : Tab w' a len cap k R := by
  refine ⟨h.hlen, h.hle, h.hmax, h.hnil, fun hl => ?_⟩
  obtain ⟨b, off, ha, hlt, hc⟩ := h.hspot hl
  exact ⟨b, off, ha, Nat.lt_of_lt_of_le hlt hb.size, fun i r hr j u hu => (hb.cell (p := ⟨b, off + (i * k + j), none⟩) hlt).trans (hc i r hr j u hu)⟩

theorem Tab.row {w w' : World} {a : Option Addr} {len cap k : Nat} {R : List (List Value)} (h : Tab w a len cap k R) (hb : Below w.heap.size w w') {i : Nat} {r : List Value} (hr : R[i]? = some r) :
    ∃ b off, a = some ⟨b, off, none⟩ ∧ b < w.heap.size ∧ ∀ j u, r[j]? = some u → w'.cell? ⟨b, off + (i * k + j), none⟩ = some u := by
  have hi : i < len := by rw [← h.hlen]; exact (List.getElem?_eq_some_iff.1 hr).1
  obtain ⟨b, off, ha, hlt, hc⟩ := h.hspot (by omega)
  exact ⟨b, off, ha, hlt, fun j u hu => (hb.cell (p := ⟨b, off + (i * k + j), none⟩) hlt).trans (hc i r hr j u hu)⟩
/-- the one cell of element i, in a later world, as the walk spells its address -/
theorem Tab.one {w w' : World} {a : Option Addr} {len cap : Nat} {R : List (List Value)} (h : Tab w a len cap 1 R) (hb : Below w.heap.size w w') {i : Nat} {u : Value} (hr : R[i]? = some [u]) :
    ∃ b off, a = some ⟨b, off, none⟩ ∧ b < w.heap.size ∧ w'.cell? ⟨b, off + i, none⟩ = some u := by
  obtain ⟨b, off, ha, hlt, hc⟩ := h.row hb hr
  have := hc 0 u rfl
  rw [Nat.mul_one, Nat.add_zero] at this
  exact ⟨b, off, ha, hlt, this⟩
theorem Tab.two {w w' : World} {a : Option Addr} {len cap : Nat} {R : List (List Value)} (h : Tab w a len cap 2 R) (hb : Below w.heap.size w w') {i : Nat} {u v : Value} (hr : R[i]? = some [u, v]) :
    ∃ b off, a = some ⟨b, off, none⟩ ∧ b < w.heap.size ∧ w'.cell? ⟨b, off + i * 2, none⟩ = some u ∧ w'.cell? ⟨b, off + i * 2 + 1, none⟩ = some v := by
  obtain ⟨b, off, ha, hlt, hc⟩ := h.row hb hr
  have h0 := hc 0 u rfl
  have h1 := hc 1 v rfl
  rw [Nat.add_zero] at h0
  rw [← Nat.add_assoc] at h1
  exact ⟨b, off, ha, hlt, h0, h1⟩
theorem Tab.three {w w' : World} {a : Option Addr} {len cap : Nat} {R : List (List Value)} (h : Tab w a len cap 3 R) (hb : Below w.heap.size w w') {i : Nat} {u v x : Value} (hr : R[i]? = some [u, v, x]) :
    ∃ b off, a = some ⟨b, off, none⟩ ∧ b < w.heap.size ∧ w'.cell? ⟨b, off + i * 3, none⟩ = some u ∧ w'.cell? ⟨b, off + i * 3 + 1, none⟩ = some v ∧ w'.cell? ⟨b, off + i * 3 + 2, none⟩ = some x := by
  obtain ⟨b, off, ha, hlt, hc⟩ := h.row hb hr
  have h0 := hc 0 u rfl
  have h1 := hc 1 v rfl
  have h2 := hc 2 x rfl
  rw [Nat.add_zero] at h0
  rw [← Nat.add_assoc] at h1 h2
  exact ⟨b, off, ha, hlt, h0, h1, h2⟩
theorem map_get {α β : Type} {f : α → β} {l : List α} {i : Nat} {y : α} (h : l[i]? = some y) : (l.map f)[i]? = some (f y) := by
  rw [List.getElem?_map, h]; rfl
theorem some_get {α β : Type} {f : α → β} {l : List α} {len i : Nat} (h : (l.map f).length = len) (hi : i < len) : ∃ y, l[i]? = some y := by
  rw [List.length_map] at h
  exact ⟨_, List.getElem?_eq_getElem (by omega)⟩

theorem list_of {α : Type} (len : Nat) (Q : Nat → α → Prop) (h : ∀ i, i < len → ∃ y, Q i y) : ∃ l : List α, l.length = len ∧ ∀ i y, l[i]? = some y → Q i y := by
  induction len with
  | zero => exact ⟨[], rfl, fun i y e => by simp at e⟩
  | succ n ih =>
    obtain ⟨l, hl, hq⟩ := ih (fun i hi => h i (by omega))
    obtain ⟨y, hy⟩ := h n (by omega)
    refine ⟨l ++ [y], by simp [hl], fun i z e => ?_⟩
    by_cases hi : i < n
    · rw [List.getElem?_append_left (by omega)] at e
      exact hq i z e
    · by_cases hin : i = n
      · subst hin
        rw [List.getElem?_append_right (by omega), hl, Nat.sub_self] at e
        simp at e
        subst e
        exact hy
      · rw [List.getElem?_eq_none (by simp; omega)] at e
        cases e

section
variable {H : Type} {enc : TypeId × Value → H} {P : Program} {w : World} {base : Nat} {spare : Nat → Bool} {held : Bool}

/-- each text and each slice in a datum is within the reach of a process -/
def Light (P : Program) (t : TypeId) (d : DataW H) : Prop := ∀ n ∈ d.weights P t, n ≤ 140737488351232
theorem light_of {ts : List TypeId} {ds : List (DataW H)} (h : (DataW.weightsEach P ts ds).all (· ≤ reachBytes) = true) {j : Nat} {t : TypeId} {d : DataW H} (ht : ts[j]? = some t) (hd : ds[j]? = some d) : Light P t d := by
  intro n hn
  have h1 : decide (n ≤ reachBytes) = true := List.all_eq_true.1 h n (DataW.weights_mem_each ht hd n hn)
  exact of_decide_eq_true h1
theorem weightsAll_mem {e : TypeId} {ds : List (DataW H)} {d : DataW H} {n : Nat} (h : d ∈ ds) (hn : n ∈ d.weights P e) : n ∈ DataW.weightsAll P e ds := by
  induction ds with
  | nil => cases h
  | cons a r ih =>
    simp only [DataW.weightsAll, List.mem_append]
    rcases List.mem_cons.1 h with rfl | h
    · exact Or.inl hn
    · exact Or.inr (ih h)
theorem Light.elem {t e : TypeId} {elems rest : List (DataW H)} (ht : P.underlying t = some (.slice e)) (h : Light P t (.slice elems rest)) {d : DataW H} (hd : d ∈ elems) : Light P e d := by
  intro n hn
  refine h n ?_
  simp only [DataW.weights, ht, List.mem_cons, List.mem_append]
  exact Or.inr (Or.inl (weightsAll_mem hd hn))
theorem Light.len {t e : TypeId} {elems rest : List (DataW H)} (ht : P.underlying t = some (.slice e)) (h : Light P t (.slice elems rest)) : elems.length * P.bytesOf e ≤ 140737488351232 := by
  have := h ((elems.length + rest.length) * P.bytesOf e) (by simp [DataW.weights, ht])
  exact Nat.le_trans (Nat.mul_le_mul_right _ (Nat.le_add_right _ _)) this
theorem Light.field {t : TypeId} {fs : Array Field} {parts : List (DataW H)} (ht : P.underlying t = some (.struct fs)) (h : Light P t (.agg parts)) {j : Nat} {f : Field} {d : DataW H} (hf : fs[j]? = some f) (hd : parts[j]? = some d) : Light P f.type d := by
  intro n hn
  refine h n ?_
  simp only [DataW.weights, ht]
  exact DataW.weights_mem_each (j := j) (by simp [hf]) hd n hn

/-- a slice that came in: its elements, each read by 'cells' -/
theorem open_slice_of {α : Type} (cells : α → List Value) (ok : α → Prop) {t e : TypeId} {k : Nat} (hk : 0 < k) (ht : P.underlying t = some (.slice e)) (hC : P.cellsOf e = k)
    (hel : ∀ n cs x, DataW.trod enc P w base spare held n e cs = some x → Light P e x.1 → ∃ y : α, cs = cells y ∧ ok y)
    {a : Option Addr} {len cap n : Nat} {x : DataW H × List MemPlace} (h : DataW.trod enc P w base spare held n t [.slice a len cap] = some x) (hL : Light P t x.1) : ∃ l : List α, Tab w a len cap k (l.map cells) ∧ len * P.bytesOf e ≤ 140737488351232 ∧ ∀ y ∈ l, ok y := by
  rcases open_slice ht h with ⟨hcs, _⟩ | ⟨a', len', cap', m, n, D, Pl, hcs, hb, hl, hm, hmm, hx, hi⟩
  · simp only [List.cons.injEq, Value.slice.injEq, and_true] at hcs
    obtain ⟨rfl, rfl, rfl⟩ := hcs
    exact ⟨[], ⟨rfl, Nat.le_refl _, Nat.zero_le _, fun _ => rfl, fun h => absurd h (by omega)⟩, by simp, fun y hy => by cases hy⟩
  · simp only [List.cons.injEq, Value.slice.injEq, and_true] at hcs
    obtain ⟨rfl, rfl, rfl⟩ := hcs
    have hlm : len ≤ m := by rw [hmm]; split <;> omega
    rw [hx] at hL
    have hbig := Light.len ht hL
    rw [List.length_map, List.length_range] at hbig
    obtain ⟨l, hll, hq⟩ := list_of len (fun i y => w.cells? base (a'.add (i * k)) k = some (cells y) ∧ ok y) (fun i hil => by
      obtain ⟨cs', hc, ht'⟩ := hi i (by omega)
      obtain ⟨y, rfl, hy⟩ := hel _ _ _ ht' (Light.elem ht hL (List.mem_map.2 ⟨i, List.mem_range.2 hil, rfl⟩))
      rw [hC] at hc
      exact ⟨y, hc, hy⟩)
    refine ⟨l, ⟨by rw [List.length_map]; exact hll, hl, hm, fun h => (by cases h), fun hpos => ?_⟩, hbig, fun y hy => ?_⟩
    · have hcell : ∀ i r, (l.map cells)[i]? = some r → ∀ j u, r[j]? = some u → w.cell? (a'.add (i * k + j)) = some u := by
        intro i r hr j u hu
        rw [List.getElem?_map] at hr
        cases hy : l[i]? with
        | none => rw [hy] at hr; cases hr
        | some y =>
          rw [hy] at hr
          obtain rfl : cells y = r := by simpa using hr
          obtain ⟨hc, _⟩ := hq i y hy
          obtain ⟨_, hcl, hat⟩ := World.cells?_some hc
          have hj : j < k := by rw [← hcl]; exact (List.getElem?_eq_some_iff.1 hu).1
          rw [← add_add, hat j hj, hu]
      obtain ⟨y0, hy0⟩ : ∃ y, l[0]? = some y := by
        cases hz : l[0]? with
        | none => rw [List.getElem?_eq_none_iff] at hz; omega
        | some y => exact ⟨y, rfl⟩
      obtain ⟨u0, hu0⟩ : ∃ u, (cells y0)[0]? = some u := by
        obtain ⟨_, hcl, _⟩ := World.cells?_some (hq 0 y0 hy0).1
        exact ⟨(cells y0)[0]'(by omega), List.getElem?_eq_getElem _⟩
      have h0 := hcell 0 (cells y0) (by rw [List.getElem?_map, hy0]; rfl) 0 u0 hu0
      have e0 : a'.add (0 * k + 0) = a' := by rw [Nat.zero_mul, Nat.zero_add]; simp [Addr.add]
      rw [e0] at h0
      obtain ⟨b, off, sp⟩ := a'
      obtain rfl : sp = none := World.cell?_spot h0
      refine ⟨b, off, rfl, World.block_lt_of_cell? _ _ h0, fun i r hr j u hu => ?_⟩
      have := hcell i r hr j u hu
      have e1 : (Addr.mk b off none).add (i * k + j) = ⟨b, off + (i * k + j), none⟩ := by
        unfold Addr.add
        by_cases hz : i * k + j = 0
        · rw [if_pos hz, hz, Nat.add_zero]
        · rw [if_neg hz]
      rw [e1] at this
      exact this
    · obtain ⟨i, hi', rfl⟩ := List.mem_iff_getElem.1 hy
      exact (hq i _ (List.getElem?_eq_getElem hi')).2

/-! ### elements -/
def iC (n : Int) : List Value := [.int .i64 n]
def bC (b : Bool) : List Value := [.bool b]
def sC (s : ByteArray) : List Value := [.string s]
def wfI (n : Int) : Prop := (Lit.int .i64 n).wf = true
def wfS (s : ByteArray) : Prop := s.size ≤ 140737488351232
theorem el_int {e : TypeId} (he : P.underlying e = some (.int .i64)) : ∀ n cs x, DataW.trod enc P w base spare held n e cs = some x → Light P e x.1 → ∃ y : Int, cs = iC y ∧ wfI y := by
  intro n cs x h _
  obtain ⟨y, h1, _, h2⟩ := DataW.trod_int he h
  exact ⟨y, h1, h2⟩
theorem el_bool {e : TypeId} (he : P.underlying e = some .bool) : ∀ n cs x, DataW.trod enc P w base spare held n e cs = some x → Light P e x.1 → ∃ y : Bool, cs = bC y ∧ True := by
  intro n cs x h _
  obtain ⟨y, h1, _⟩ := DataW.trod_bool he h
  exact ⟨y, h1, trivial⟩
theorem el_str {e : TypeId} (he : P.underlying e = some .string) : ∀ n cs x, DataW.trod enc P w base spare held n e cs = some x → Light P e x.1 → ∃ y : ByteArray, cs = sC y ∧ wfS y := by
  intro n cs x h hL
  obtain ⟨y, h1, h3, h2⟩ := DataW.trod_string he h
  rw [h3] at hL
  exact ⟨y, h1, hL y.size (by simp [DataW.weights])⟩

/-- the cells of a struct of one-cell fields, each with its own reading -/
theorem struct_fields {e : TypeId} {fs : Array Field} (he : P.underlying e = some (.struct fs)) (hone : oneCellFields P fs = true) (hC : P.cellsOf e = fs.size) {n : Nat} {cs : List Value} {x : DataW H × List MemPlace}
    (h : DataW.trod enc P w base spare held n e cs = some x) (hL : Light P e x.1) : cs.length = fs.size ∧ ∀ (j : Nat) (f : Field), fs[j]? = some f → ∃ (v : Value) (y : DataW H × List MemPlace) (m : Nat), cs[j]? = some v ∧ DataW.trod enc P w base spare held m f.type [v] = some y ∧ Light P f.type y.1 := by
  obtain ⟨ys, m, _, hx, hlen, hyl, hf⟩ := DataW.trod_struct he h
  rw [hC] at hlen
  rw [hx] at hL
  refine ⟨hlen, fun j f hj => ?_⟩
  obtain ⟨ho, hk⟩ := hone_of hone j f hj
  have hjl : j < fs.size := (Array.getElem?_eq_some_iff.1 hj).1
  have h1 := hf j f hj
  rw [ho, hk] at h1
  have hone' : (cs.drop j).take 1 = [cs[j]'(by omega)] := by
    rw [List.drop_eq_getElem_cons (by omega)]
    rfl
  rw [hone', List.getElem?_eq_getElem (by omega)] at h1
  exact ⟨_, _, m, List.getElem?_eq_getElem (by omega), h1, Light.field he hL hj (by rw [List.getElem?_map, List.getElem?_eq_getElem (by omega)]; rfl)⟩
theorem list2 {l : List Value} (h : l.length = 2) : ∃ a b, l = [a, b] := by
  match l, h with
  | [a, b], _ => exact ⟨a, b, rfl⟩
theorem list3 {l : List Value} (h : l.length = 3) : ∃ a b c, l = [a, b, c] := by
  match l, h with
  | [a, b, c], _ => exact ⟨a, b, c, rfl⟩
theorem list4 {l : List Value} (h : l.length = 4) : ∃ a b c d, l = [a, b, c, d] := by
  match l, h with
  | [a, b, c, d], _ => exact ⟨a, b, c, d, rfl⟩
theorem struct2 {e : TypeId} {f0 f1 : Field} (he : P.underlying e = some (.struct #[f0, f1])) (hone : oneCellFields P #[f0, f1] = true) (hC : P.cellsOf e = 2) {n : Nat} {cs : List Value} {x : DataW H × List MemPlace}
    (h : DataW.trod enc P w base spare held n e cs = some x) (hL : Light P e x.1) : ∃ v0 v1 m0 m1 y0 y1, cs = [v0, v1] ∧ (DataW.trod enc P w base spare held m0 f0.type [v0] = some y0 ∧ Light P f0.type y0.1) ∧ (DataW.trod enc P w base spare held m1 f1.type [v1] = some y1 ∧ Light P f1.type y1.1) := by
  obtain ⟨hl, hf⟩ := struct_fields he hone hC h hL
  obtain ⟨v0, v1, rfl⟩ := list2 hl
  obtain ⟨u0, y0, m0, e0, t0⟩ := hf 0 f0 rfl
  obtain ⟨u1, y1, m1, e1, t1⟩ := hf 1 f1 rfl
  simp at e0 e1
  subst e0 e1
  exact ⟨_, _, m0, m1, y0, y1, rfl, t0, t1⟩
theorem struct3 {e : TypeId} {f0 f1 f2 : Field} (he : P.underlying e = some (.struct #[f0, f1, f2])) (hone : oneCellFields P #[f0, f1, f2] = true) (hC : P.cellsOf e = 3) {n : Nat} {cs : List Value} {x : DataW H × List MemPlace}
    (h : DataW.trod enc P w base spare held n e cs = some x) (hL : Light P e x.1) : ∃ v0 v1 v2 m0 m1 m2 y0 y1 y2, cs = [v0, v1, v2] ∧ (DataW.trod enc P w base spare held m0 f0.type [v0] = some y0 ∧ Light P f0.type y0.1) ∧ (DataW.trod enc P w base spare held m1 f1.type [v1] = some y1 ∧ Light P f1.type y1.1) ∧ (DataW.trod enc P w base spare held m2 f2.type [v2] = some y2 ∧ Light P f2.type y2.1) := by
  obtain ⟨hl, hf⟩ := struct_fields he hone hC h hL
  obtain ⟨v0, v1, v2, rfl⟩ := list3 hl
  obtain ⟨u0, y0, m0, e0, t0⟩ := hf 0 f0 rfl
  obtain ⟨u1, y1, m1, e1, t1⟩ := hf 1 f1 rfl
  obtain ⟨u2, y2, m2, e2, t2⟩ := hf 2 f2 rfl
  simp at e0 e1 e2
  subst e0 e1 e2
  exact ⟨_, _, _, m0, m1, m2, y0, y1, y2, rfl, t0, t1, t2⟩
theorem struct4 {e : TypeId} {f0 f1 f2 f3 : Field} (he : P.underlying e = some (.struct #[f0, f1, f2, f3])) (hone : oneCellFields P #[f0, f1, f2, f3] = true) (hC : P.cellsOf e = 4) {n : Nat} {cs : List Value} {x : DataW H × List MemPlace}
    (h : DataW.trod enc P w base spare held n e cs = some x) (hL : Light P e x.1) : ∃ v0 v1 v2 v3 m0 m1 m2 m3 y0 y1 y2 y3, cs = [v0, v1, v2, v3] ∧ (DataW.trod enc P w base spare held m0 f0.type [v0] = some y0 ∧ Light P f0.type y0.1) ∧ (DataW.trod enc P w base spare held m1 f1.type [v1] = some y1 ∧ Light P f1.type y1.1) ∧ (DataW.trod enc P w base spare held m2 f2.type [v2] = some y2 ∧ Light P f2.type y2.1) ∧ (DataW.trod enc P w base spare held m3 f3.type [v3] = some y3 ∧ Light P f3.type y3.1) := by
  obtain ⟨hl, hf⟩ := struct_fields he hone hC h hL
  obtain ⟨v0, v1, v2, v3, rfl⟩ := list4 hl
  obtain ⟨u0, y0, m0, e0, t0⟩ := hf 0 f0 rfl
  obtain ⟨u1, y1, m1, e1, t1⟩ := hf 1 f1 rfl
  obtain ⟨u2, y2, m2, e2, t2⟩ := hf 2 f2 rfl
  obtain ⟨u3, y3, m3, e3, t3⟩ := hf 3 f3 rfl
  simp at e0 e1 e2 e3
  subst e0 e1 e2 e3
  exact ⟨_, _, _, _, m0, m1, m2, m3, y0, y1, y2, y3, rfl, t0, t1, t2, t3⟩

/-- struct { string, string } -/
def ssC (p : ByteArray × ByteArray) : List Value := [.string p.1, .string p.2]
def wfSS (p : ByteArray × ByteArray) : Prop := p.1.size ≤ 140737488351232 ∧ p.2.size ≤ 140737488351232
theorem el_ss {e : TypeId} {f0 f1 : Field} (he : P.underlying e = some (.struct #[f0, f1])) (hone : oneCellFields P #[f0, f1] = true) (hC : P.cellsOf e = 2) (h0 : P.underlying f0.type = some .string) (h1 : P.underlying f1.type = some .string) :
    ∀ n cs x, DataW.trod enc P w base spare held n e cs = some x → Light P e x.1 → ∃ y : ByteArray × ByteArray, cs = ssC y ∧ wfSS y := by
  intro n cs x h hL
  obtain ⟨v0, v1, m0, m1, y0, y1, rfl, t0, t1⟩ := struct2 he hone hC h hL
  obtain ⟨s0, e0, k0⟩ := el_str h0 _ _ _ t0.1 t0.2
  obtain ⟨s1, e1, k1⟩ := el_str h1 _ _ _ t1.1 t1.2
  simp [iC, sC] at e0 e1
  subst e0 e1
  exact ⟨(s0, s1), rfl, k0, k1⟩
/-- struct { int, int } -/
def iiC (p : Int × Int) : List Value := [.int .i64 p.1, .int .i64 p.2]
def wfII (p : Int × Int) : Prop := wfI p.1 ∧ wfI p.2
theorem el_ii {e : TypeId} {f0 f1 : Field} (he : P.underlying e = some (.struct #[f0, f1])) (hone : oneCellFields P #[f0, f1] = true) (hC : P.cellsOf e = 2) (h0 : P.underlying f0.type = some (.int .i64)) (h1 : P.underlying f1.type = some (.int .i64)) :
    ∀ n cs x, DataW.trod enc P w base spare held n e cs = some x → Light P e x.1 → ∃ y : Int × Int, cs = iiC y ∧ wfII y := by
  intro n cs x h hL
  obtain ⟨v0, v1, m0, m1, y0, y1, rfl, t0, t1⟩ := struct2 he hone hC h hL
  obtain ⟨s0, e0, k0⟩ := el_int h0 _ _ _ t0.1 t0.2
  obtain ⟨s1, e1, k1⟩ := el_int h1 _ _ _ t1.1 t1.2
  simp [iC, sC] at e0 e1
  subst e0 e1
  exact ⟨(s0, s1), rfl, k0, k1⟩
/-- struct { string, int, int } -/
def siiC (p : ByteArray × Int × Int) : List Value := [.string p.1, .int .i64 p.2.1, .int .i64 p.2.2]
def wfSII (p : ByteArray × Int × Int) : Prop := p.1.size ≤ 140737488351232 ∧ wfI p.2.1 ∧ wfI p.2.2
theorem el_sii {e : TypeId} {f0 f1 f2 : Field} (he : P.underlying e = some (.struct #[f0, f1, f2])) (hone : oneCellFields P #[f0, f1, f2] = true) (hC : P.cellsOf e = 3) (h0 : P.underlying f0.type = some .string) (h1 : P.underlying f1.type = some (.int .i64)) (h2 : P.underlying f2.type = some (.int .i64)) :
    ∀ n cs x, DataW.trod enc P w base spare held n e cs = some x → Light P e x.1 → ∃ y : ByteArray × Int × Int, cs = siiC y ∧ wfSII y := by
  intro n cs x h hL
  obtain ⟨v0, v1, v2, m0, m1, m2, y0, y1, y2, rfl, t0, t1, t2⟩ := struct3 he hone hC h hL
  obtain ⟨s0, e0, k0⟩ := el_str h0 _ _ _ t0.1 t0.2
  obtain ⟨s1, e1, k1⟩ := el_int h1 _ _ _ t1.1 t1.2
  obtain ⟨s2, e2, k2⟩ := el_int h2 _ _ _ t2.1 t2.2
  simp [iC, sC] at e0 e1 e2
  subst e0 e1 e2
  exact ⟨(s0, s1, s2), rfl, k0, k1, k2⟩
/-- one cell that holds a slice -/
structure Sl (α : Type) where
  a : Option Addr
  len : Nat
  cap : Nat
  l : List α
def slC {α : Type} (s : Sl α) : List Value := [.slice s.a s.len s.cap]
theorem el_slice {α : Type} (cells : α → List Value) (ok : α → Prop) {t e : TypeId} {k : Nat} (hk : 0 < k) (ht : P.underlying t = some (.slice e)) (hC : P.cellsOf e = k)
    (hel : ∀ n cs x, DataW.trod enc P w base spare held n e cs = some x → Light P e x.1 → ∃ y : α, cs = cells y ∧ ok y) {B : Nat} (hB : P.bytesOf e = B) :
    ∀ n cs x, DataW.trod enc P w base spare held n t cs = some x → Light P t x.1 → ∃ y : Sl α, cs = slC y ∧ (Tab w y.a y.len y.cap k (y.l.map cells) ∧ y.len * B ≤ 140737488351232 ∧ ∀ z ∈ y.l, ok z) := by
  intro n cs x h hL
  have hcs : ∃ a len cap, cs = [.slice a len cap] := by
    rcases open_slice ht h with ⟨hcs, _⟩ | ⟨a', len', cap', m, n, D, Pl, hcs, _⟩
    · exact ⟨_, _, _, hcs⟩
    · exact ⟨_, _, _, hcs⟩
  obtain ⟨a, len, cap, rfl⟩ := hcs
  obtain ⟨l, h1, h3, h2⟩ := open_slice_of cells ok hk ht hC hel h hL
  rw [hB] at h3
  exact ⟨⟨a, len, cap, l⟩, rfl, h1, h3, h2⟩
theorem trod_slice_of {t e : TypeId} {a : Option Addr} {len cap : Nat} {d : DataW H} {p : List MemPlace} (_ht : P.underlying t = some (.slice e)) (h : DataW.Trod enc P w base spare held t (.slice a len cap) d p) : ∃ n, DataW.trod enc P w base spare held n t [.slice a len cap] = some (d, p) := by
  obtain ⟨n, hf⟩ := h
  exact ⟨n, hf⟩
theorem trod_agg_of {t : TypeId} {cs : Array Value} {d : DataW H} {p : List MemPlace} (h : DataW.Trod enc P w base spare held t (.agg cs) d p) : ∃ n, DataW.trod enc P w base spare held n t cs.toList = some (d, p) := by
  obtain ⟨n, hf⟩ := h
  exact ⟨n, hf⟩
end

end Go.Proofs.Ytffgoekdjcempab

/- A slice that the call itself makes and appends to: what it holds, row by row. For every program; no Go text in sight. -/
namespace Go.Proofs.Ytffgoekdjcempab
open Go.RowKit

/-- v is the call's own slice (its block from 'base' on) whose elements are the rows R, of k cells each -/
structure Own (w : World) (base : Nat) (e : TypeId) (k : Nat) (v : Value) (R : List (List Value)) : Prop where
  own : w.ownsRow base e k v R.length R.flatten
  rows : ∀ r ∈ R, r.length = k

theorem flatten_len {k : Nat} {R : List (List Value)} (h : ∀ r ∈ R, r.length = k) : R.flatten.length = R.length * k := by
  induction R with
  | nil => simp
  | cons r R ih =>
    rw [List.flatten_cons, List.length_append, h r (by simp), ih (fun r hr => h r (by simp [hr])), List.length_cons, Nat.succ_mul, Nat.add_comm]
theorem flatten_get {k : Nat} {R : List (List Value)} (h : ∀ r ∈ R, r.length = k) {i : Nat} {r : List Value} (hr : R[i]? = some r) {j : Nat} {u : Value} (hu : r[j]? = some u) : R.flatten[i * k + j]? = some u := by
  induction R generalizing i with
  | nil => simp at hr
  | cons q R ih =>
    have hq := h q (by simp)
    cases i with
    | zero =>
      simp at hr
      subst hr
      have hj : j < q.length := (List.getElem?_eq_some_iff.1 hu).1
      rw [List.flatten_cons, Nat.zero_mul, Nat.zero_add, List.getElem?_append_left hj, hu]
    | succ i =>
      simp at hr
      have := ih (fun r hr => h r (by simp [hr])) hr
      rw [List.flatten_cons, List.getElem?_append_right (by rw [hq, Nat.succ_mul]; omega), hq, show (i + 1) * k + j - k = i * k + j from by rw [Nat.succ_mul]; omega, this]

/-- all cells of a slice that came in, one behind the other -/
theorem Tab.flat {w w' : World} {ad : Addr} {len cap k : Nat} {R : List (List Value)} (h : Tab w (some ad) len cap k R) (hb : Below w.heap.size w w') (hk : 0 < k) (hr : ∀ r ∈ R, r.length = k) : ∀ j u, R.flatten[j]? = some u → w'.cell? (ad.add j) = some u := by
  intro j u hu
  have hj : j < R.length * k := by rw [← flatten_len hr]; exact (List.getElem?_eq_some_iff.1 hu).1
  have hi : j / k < R.length := Nat.div_lt_of_lt_mul (by rw [Nat.mul_comm]; exact hj)
  have hri : R[j / k]? = some (R[j / k]'hi) := List.getElem?_eq_getElem hi
  have hlen := hr _ (List.getElem_mem hi)
  have hju : (R[j / k]'hi)[j % k]? = some ((R[j / k]'hi)[j % k]'(by rw [hlen]; exact Nat.mod_lt _ hk)) := List.getElem?_eq_getElem _
  obtain ⟨b, off, ha, hlt, hc⟩ := h.row hb hri
  have e := flatten_get hr hri hju
  have ej : j / k * k + j % k = j := by rw [Nat.mul_comm]; exact Nat.div_add_mod j k
  rw [ej, hu] at e
  have hcell := hc (j % k) _ hju
  rw [ej, ← Option.some.inj e] at hcell
  obtain rfl := Option.some.inj ha
  have e1 : (Addr.mk b off none).add j = ⟨b, off + j, none⟩ := by
    unfold Addr.add
    by_cases hz : j = 0
    · rw [if_pos hz, hz, Nat.add_zero]
    · rw [if_neg hz]
  rw [e1]
  exact hcell
theorem Tab.nil_of {w : World} {len cap k : Nat} {R : List (List Value)} (h : Tab w none len cap k R) : len = 0 ∧ R = [] := by
  by_cases hl : 0 < len
  · obtain ⟨b, off, ha, _⟩ := h.hspot hl
    cases ha
  · have e : len = 0 := by omega
    exact ⟨e, List.length_eq_zero_iff.1 (h.hlen.trans e)⟩
theorem rows_of {α : Type} {cells : α → List Value} {k : Nat} (h : ∀ y, (cells y).length = k) (l : List α) : ∀ r ∈ l.map cells, r.length = k := by
  intro r hr
  obtain ⟨y, _, rfl⟩ := List.mem_map.1 hr
  exact h y
theorem one_of {α : Type} {cells : α → List Value} (h : ∀ y, ∀ u ∈ cells y, u.oneCell' = true) (l : List α) : ∀ u ∈ (l.map cells).flatten, u.oneCell' = true := by
  intro u hu
  obtain ⟨r, hr, hu'⟩ := List.mem_flatten.1 hu
  obtain ⟨y, _, rfl⟩ := List.mem_map.1 hr
  exact h y u hu'
theorem Own.nil (w : World) (base : Nat) (e : TypeId) (k : Nat) : Own w base e k (.slice none 0 0) [] :=
  ⟨World.ownsRow_nil w base e k, fun r h => by cases h⟩
theorem Own.empty (w : World) (e : TypeId) (k : Nat) : Own (w.alloc (.cells #[] e)) w.heap.size e k (.slice (some ⟨w.heap.size, 0, none⟩) 0 0) [] := by
  refine ⟨⟨by simp, .inr ⟨w.heap.size, 0, #[], rfl, Nat.le_refl _, ?_, Nat.le_refl _, Nat.zero_le _, by simp, by simp⟩⟩, fun r h => by cases h⟩
  exact (MapKept.heap_alloc w _).1
theorem Own.made {w : World} {base : Nat} {e : TypeId} {k : Nat} {v : Value} (h : w.ownsRow base e k v 0 []) : Own w base e k v [] :=
  ⟨h, fun r h => by cases h⟩
theorem Own.alloc {w : World} {base : Nat} {e : TypeId} {k : Nat} {v : Value} {R : List (List Value)} (h : Own w base e k v R) (o : Obj) : Own (w.alloc o) base e k v R := ⟨h.own.alloc o, h.rows⟩
theorem Own.below {w w' : World} {base : Nat} {e : TypeId} {k : Nat} {v : Value} {R : List (List Value)} (h : Own w base e k v R) (hb : Below w.heap.size w w') : Own w' base e k v R := by
  refine ⟨h.own.kept (row := none) ⟨hb.os, hb.tape, hb.output, hb.size, fun j hj _ => hb.block j hj⟩ ?_, h.rows⟩
  cases e : v.ownBlock with
  | none => exact .inl rfl
  | some g => exact .inr (by simp)
theorem Own.tab {w : World} {base : Nat} {e : TypeId} {k : Nat} {v : Value} {R : List (List Value)} (h : Own w base e k v R) : ∃ a cap, v = .slice a R.length cap ∧ Tab w a R.length cap k R := by
  obtain ⟨⟨hl, hv⟩, hr⟩ := h
  rcases hv with ⟨rfl, hn⟩ | ⟨g, cap, cur, rfl, hg, hcur, hle, hm, hsz, htk⟩
  · obtain rfl : R = [] := List.length_eq_zero_iff.1 hn
    exact ⟨none, 0, rfl, rfl, Nat.le_refl _, Nat.zero_le _, fun _ => rfl, fun h => absurd h (by simp)⟩
  · have hlt : g < w.heap.size := (Array.getElem?_eq_some_iff.1 hcur).1
    refine ⟨some ⟨g, 0, none⟩, cap, rfl, rfl, hle, hm, fun h => (by cases h), fun _ => ⟨g, 0, rfl, hlt, fun i r hri j u hu => ?_⟩⟩
    have e1 := flatten_get hr hri hu
    rw [← htk] at e1
    have hlt' : i * k + j < R.length * k := by
      have := (List.getElem?_eq_some_iff.1 e1).1
      rw [List.length_take] at this
      omega
    rw [List.getElem?_take_of_lt hlt', Array.getElem?_toList] at e1
    show w.cell? ⟨g, 0 + (i * k + j), none⟩ = some u
    rw [Nat.zero_add]
    simp only [World.cell?, hcur]
    exact e1
theorem Own.tab_of {w : World} {base : Nat} {e : TypeId} {k : Nat} {a : Option Addr} {n cap : Nat} {R : List (List Value)} (h : Own w base e k (.slice a n cap) R) : Tab w a n cap k R := by
  obtain ⟨a', cap', e', T⟩ := h.tab
  simp only [Value.slice.injEq] at e'
  obtain ⟨rfl, rfl, rfl⟩ := e'
  exact T
/-- what lies below the base is as it was, behind an append too -/
theorem Own.under {w0 w w' : World} {B base : Nat} {e : TypeId} {k : Nat} {v : Value} {R : List (List Value)} (h : Own w base e k v R) (hb : Below B w0 w) (hB : B ≤ base) (hs : B ≤ w.heap.size) (hg : w.grownBy w' v.ownBlock) : Below B w0 w' :=
  hb.grown hg hs (fun j hj => Nat.le_trans hB (h.own.lt j hj).1)

/-- the call returns a slice of its own with these rows; nothing old has turned -/
def RetRows (w : World) (e : TypeId) (k : Nat) (R : List (List Value)) (en : Ending) (w' : World) : Prop := ∃ v, en = .returned v ∧ Own w' w.heap.size e k v R ∧ Below w.heap.size w w'

/-- 'append(s, x...)' at the operation, for the walk: s the call's own, x a slice of rows that lies elsewhere -/
theorem wpList_append_rows {P : Program} (w : World) {ops : Array Oper} {rest : List Oper} {o : Oper} {a : Act} {Q : Exit → Act → World → Prop} (hgd : o.guard = none) (s x : Operand) (t : TypeId)
    (ho : o.op = .call { callee := .builtin .append, args := #[s, x], argTypes := #[t, t] })
    (base : Nat) (e : TypeId) (z : Value) (k bytes : Nat) (ht : P.underlying t = some (.slice e)) (hinfo : (P.info? e).map (fun i => (i.zero, i.size, i.bytes)) = some (some z, k, bytes)) (hzs : z.cells.size = k) (hsz : 0 < k)
    (v : Value) (R : List (List Value)) (hs : a.eval s = v) (hown : Own w base e k v R)
    (ad : Addr) (m c : Nat) (N : List (List Value)) (hm : N.length = m) (hx : a.eval x = .slice (some ad) m c) (hN : ∀ r ∈ N, r.length = k) (hnews : ∀ j u, N.flatten[j]? = some u → w.cell? (ad.add j) = some u) (h1 : ∀ u ∈ N.flatten, u.oneCell' = true)
    (h63 : (R.length + m) * bytes ≤ 140737488355328) (hby : 0 < bytes) (hbase : base ≤ w.heap.size)
    (h : ∀ v' w', Own w' base e k v' (R ++ N) → w.grownBy w' v.ownBlock → wpList P ops Q rest (a.put o.dst v') w') : wpList P ops Q (o :: rest) a w := by
  obtain ⟨i, hi, hz0, hz1, hz2⟩ := info_parts hinfo
  subst hm
  refine wpList_append_own w hgd s x t ho base e i z k bytes ht hi hz0 hz1 hz2 hzs hsz v R.length R.flatten hs hown.own ad N.length c N.flatten hx (flatten_len hN) hnews h1 ?_ ?_ hbase ?_
  · have := Nat.le_trans (Nat.le_mul_of_pos_right (R.length + N.length) hby) h63
    unfold maxLen; omega
  · exact h63
  · intro v' w' h2 h3 _
    refine h v' w' ⟨?_, ?_⟩ h3
    · rw [List.length_append, List.flatten_append]; exact h2
    · intro r hr
      rcases List.mem_append.1 hr with hr | hr
      · exact hown.rows r hr
      · exact hN r hr
/-- the same where x is a slice that came in, nil or not -/
theorem wpList_append_tab {P : Program} (w : World) {ops : Array Oper} {rest : List Oper} {o : Oper} {a : Act} {Q : Exit → Act → World → Prop} (hgd : o.guard = none) (s x : Operand) (t : TypeId)
    (ho : o.op = .call { callee := .builtin .append, args := #[s, x], argTypes := #[t, t] })
    (base : Nat) (e : TypeId) (z : Value) (k bytes : Nat) (ht : P.underlying t = some (.slice e)) (hinfo : (P.info? e).map (fun i => (i.zero, i.size, i.bytes)) = some (some z, k, bytes)) (hzs : z.cells.size = k) (hsz : 0 < k)
    (v : Value) (R : List (List Value)) (hs : a.eval s = v) (hown : Own w base e k v R)
    (ad : Option Addr) (m c : Nat) (N : List (List Value)) (w0 : World) (hT : Tab w0 ad m c k N) (hb : Below w0.heap.size w0 w) (hx : a.eval x = .slice ad m c) (hN : ∀ r ∈ N, r.length = k) (h1 : ∀ u ∈ N.flatten, u.oneCell' = true)
    (h63 : (R.length + m) * bytes ≤ 140737488355328) (hby : 0 < bytes) (hbase : base ≤ w.heap.size)
    (h : ∀ v' w', Own w' base e k v' (R ++ N) → w.grownBy w' v.ownBlock → wpList P ops Q rest (a.put o.dst v') w') : wpList P ops Q (o :: rest) a w := by
  cases ad with
  | none =>
    obtain ⟨hm, hNn⟩ := hT.nil_of
    have hc := hT.hnil rfl
    subst hm hNn hc
    obtain ⟨i, hi, hz0, hz1, hz2⟩ := info_parts hinfo
    refine Lib.wpList_append_run w hgd s x t t ho v (.slice none 0 0) hs hx v w (run_append_owned_none w base t o.type e i k ht hi v R.length R.flatten hown.own) ?_
    refine h v w (by rw [List.append_nil]; exact hown) ⟨rfl, rfl, rfl, Nat.le_refl _, fun _ _ _ => rfl⟩
  | some ad =>
    exact wpList_append_rows w hgd s x t ho base e z k bytes ht hinfo hzs hsz v R hs hown ad m c N hT.hlen hx hN (hT.flat hb hsz hN) h1 h63 hby hbase h
/-- the one row that the translation lays for 'append(s, x)' -/
theorem one_row (w : World) (r : List Value) (t : TypeId) (n : Nat) (hn : n = w.heap.size) : ∀ j u, [r].flatten[j]? = some u → (w.alloc (.cells r.toArray t)).cell? ((⟨n, 0, none⟩ : Addr).add j) = some u := by
  subst hn
  intro j u hj
  have hj' : r[j]? = some u := by simpa using hj
  have e : (⟨w.heap.size, 0, none⟩ : Addr).add j = ⟨w.heap.size, j, none⟩ := by
    unfold Addr.add
    by_cases h : j = 0
    · rw [if_pos h, h]
    · rw [if_neg h]; simp
  rw [e, World.cell?_alloc_at _ _ _ _ rfl]
  simpa using hj'

theorem Own.full {w : World} {base : Nat} {e : TypeId} {k : Nat} {v : Value} {n : Nat} {xs : List Value} {R : List (List Value)} (h : w.ownsRow base e k v n xs) (hR : R.length = n ∧ R.flatten = xs ∧ ∀ r ∈ R, r.length = k) : Own w base e k v R := by
  obtain ⟨h1, h2, h3⟩ := hR
  subst h1 h2
  exact ⟨h, h3⟩
theorem flat_ints (l : List Int) : (l.map iC).flatten = l.map (Value.int .i64) := by
  induction l with
  | nil => rfl
  | cons x l ih => rw [List.map_cons, List.flatten_cons, ih]; rfl
theorem made_ints (n : Nat) : ((List.replicate n (0 : Int)).map iC).length = n ∧ ((List.replicate n (0 : Int)).map iC).flatten = (madeCells (Value.int .i64 0).cells (n * 1)).toList ∧ ∀ r ∈ (List.replicate n (0 : Int)).map iC, r.length = 1 := by
  refine ⟨by simp, ?_, ?_⟩
  · rw [flat_ints, Nat.mul_one]
    apply List.ext_getElem?
    intro i
    simp [madeCells, Value.cells, List.getElem?_replicate]
    by_cases h : i < n
    · rw [if_pos h, List.getElem?_eq_getElem (by simpa using h)]
      simp [Nat.mod_one]
    · rw [if_neg h, List.getElem?_eq_none (by simpa using h)]
      rfl
  · intro r hr
    obtain ⟨x, _, rfl⟩ := List.mem_map.1 hr
    rfl
/-- a cell of the call's own slice: what it holds, and that it may be written -/
theorem Own.at_ {w : World} {base : Nat} {e : TypeId} {k : Nat} {g n cap : Nat} {R : List (List Value)} (h : Own w base e k (.slice (some ⟨g, 0, none⟩) n cap) R) {i j : Nat} {r : List Value} {u : Value} (hr : R[i]? = some r) (hu : r[j]? = some u) :
    w.cell? ⟨g, i * k + j, none⟩ = some u ∧ w.frozen? ⟨g, i * k + j, none⟩ = false ∧ base ≤ g ∧ g < w.heap.size := by
  obtain ⟨⟨hl, hv⟩, hR⟩ := h
  rcases hv with ⟨h0, _⟩ | ⟨g', cap', cur, h0, hg, hcur, hle, hm, hsz, htk⟩
  · cases h0
  · simp only [Value.slice.injEq, Option.some.injEq, Addr.mk.injEq, and_true] at h0
    obtain ⟨rfl, _, _⟩ := h0
    have e1 := flatten_get hR hr hu
    rw [← htk] at e1
    have hlt' : i * k + j < R.length * k := by
      have := (List.getElem?_eq_some_iff.1 e1).1
      rw [List.length_take] at this
      omega
    rw [List.getElem?_take_of_lt hlt', Array.getElem?_toList] at e1
    refine ⟨?_, ?_, hg, (Array.getElem?_eq_some_iff.1 hcur).1⟩
    · simp only [World.cell?, hcur]; exact e1
    · simp [World.frozen?, hcur]
theorem flatten_set {k : Nat} {R : List (List Value)} (h : ∀ r ∈ R, r.length = k) {i : Nat} {r : List Value} (hr : R[i]? = some r) {j : Nat} (hj : j < k) (v : Value) : (R.set i (r.set j v)).flatten = R.flatten.set (i * k + j) v := by
  induction R generalizing i with
  | nil => simp at hr
  | cons q R ih =>
    have hq := h q (by simp)
    cases i with
    | zero =>
      simp at hr
      subst hr
      rw [List.set_cons_zero, List.flatten_cons, List.flatten_cons, Nat.zero_mul, Nat.zero_add, List.set_append_left _ _ (by omega)]
    | succ i =>
      simp at hr
      rw [List.set_cons_succ, List.flatten_cons, List.flatten_cons, ih (fun r hr => h r (by simp [hr])) hr, List.set_append_right _ _ (by rw [hq, Nat.succ_mul]; omega), hq, show (i + 1) * k + j - k = i * k + j from by rw [Nat.succ_mul]; omega]
/-- a store into a cell of the call's own slice -/
theorem Own.set_ {w : World} {base : Nat} {e : TypeId} {k : Nat} {g n cap : Nat} {R : List (List Value)} (h : Own w base e k (.slice (some ⟨g, 0, none⟩) n cap) R) {i j : Nat} {r : List Value} (hr : R[i]? = some r) (hj : j < k) (v : Value) :
    Own (w.setCell ⟨g, i * k + j, none⟩ v) base e k (.slice (some ⟨g, 0, none⟩) n cap) (R.set i (r.set j v)) := by
  obtain ⟨⟨hl, hv⟩, hR⟩ := h
  have hrl : r.length = k := hR r (List.mem_of_getElem? hr)
  refine ⟨⟨?_, ?_⟩, ?_⟩
  · rw [flatten_set hR hr hj, List.length_set, List.length_set, hl]
  · right
    rcases hv with ⟨h0, _⟩ | ⟨g', cap', cur, h0, hg, hcur, hle, hm, hsz, htk⟩
    · cases h0
    · simp only [Value.slice.injEq, Option.some.injEq, Addr.mk.injEq, and_true] at h0
      obtain ⟨rfl, rfl, rfl⟩ := h0
      refine ⟨g, cap, cur.setIfInBounds (i * k + j) v, by rw [List.length_set], hg, heap_setCell_same w g _ cur e v hcur, by rw [List.length_set]; exact hle, hm, by simp [hsz], ?_⟩
      rw [flatten_set hR hr hj, ← htk, List.length_set, Array.toList_setIfInBounds, List.take_set]
  · intro q hq
    rcases List.mem_or_eq_of_mem_set hq with hq | rfl
    · exact hR q hq
    · rw [List.length_set, hrl]
theorem Own.set1 {w : World} {base : Nat} {e : TypeId} {g n cap : Nat} {R : List (List Value)} (h : Own w base e 1 (.slice (some ⟨g, 0, none⟩) n cap) R) {i : Nat} {u : Value} (hr : R[i]? = some [u]) (v : Value) :
    Own (w.setCell ⟨g, i, none⟩ v) base e 1 (.slice (some ⟨g, 0, none⟩) n cap) (R.set i [v]) := by
  have := h.set_ (j := 0) hr (by decide) v
  rw [Nat.mul_one, Nat.add_zero] at this
  exact this
theorem Own.at1 {w : World} {base : Nat} {e : TypeId} {g n cap : Nat} {R : List (List Value)} (h : Own w base e 1 (.slice (some ⟨g, 0, none⟩) n cap) R) {i : Nat} {u : Value} (hr : R[i]? = some [u]) :
    w.cell? ⟨g, i, none⟩ = some u ∧ w.frozen? ⟨g, i, none⟩ = false ∧ base ≤ g ∧ g < w.heap.size := by
  have := h.at_ (j := 0) hr rfl
  rw [Nat.mul_one, Nat.add_zero] at this
  exact this

theorem iC_len (y : Int) : (iC y).length = 1 := rfl
theorem bC_len (y : Bool) : (bC y).length = 1 := rfl
theorem sC_len (y : ByteArray) : (sC y).length = 1 := rfl
theorem ssC_len (y : ByteArray × ByteArray) : (ssC y).length = 2 := rfl
theorem iiC_len (y : Int × Int) : (iiC y).length = 2 := rfl
theorem siiC_len (y : ByteArray × Int × Int) : (siiC y).length = 3 := rfl
theorem iC_one (y : Int) : ∀ u ∈ iC y, u.oneCell' = true := by simp [iC, Value.oneCell']
theorem bC_one (y : Bool) : ∀ u ∈ bC y, u.oneCell' = true := by simp [bC, Value.oneCell']
theorem sC_one (y : ByteArray) : ∀ u ∈ sC y, u.oneCell' = true := by simp [sC, Value.oneCell']
theorem ssC_one (y : ByteArray × ByteArray) : ∀ u ∈ ssC y, u.oneCell' = true := by simp [ssC, Value.oneCell']
theorem iiC_one (y : Int × Int) : ∀ u ∈ iiC y, u.oneCell' = true := by simp [iiC, Value.oneCell']
theorem siiC_one (y : ByteArray × Int × Int) : ∀ u ∈ siiC y, u.oneCell' = true := by simp [siiC, Value.oneCell']

end Go.Proofs.Ytffgoekdjcempab
