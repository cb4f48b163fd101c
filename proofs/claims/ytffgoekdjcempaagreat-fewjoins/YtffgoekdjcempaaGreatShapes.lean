/- What a walk is told of an argument that is a slice (of numbers, texts, structs, slices) or a struct: for every program; no Go text in sight. -/
import Derived.Test.YtffgoekdjcempaaGreatBase
import Derived.ChangeOld
import Derived.Deep.Slices
import Derived.Deep.Fields
import Derived.ChangeSame
import Derived.Lib.SmallJoins
import Derived.SizedLaws
namespace Go.Proofs.YtffgoekdjcempaaGreat
open Go.ChangeShapes Go.WideShapes Go.Deep Go.RowKit Go.Joins

/-- a slice whose elements are the rows R, of k cells each -/
structure Tab (w : World) (a : Option Addr) (len cap k : Nat) (R : List (List Value)) : Prop where
  hlen : R.length = len
  hle : len ≤ cap
  hmax : cap ≤ maxLen
  hnil : a = none → cap = 0
  hspot : 0 < len → ∃ b off, a = some ⟨b, off, none⟩ ∧ b < w.heap.size ∧ ∀ i r, R[i]? = some r → ∀ j u, r[j]? = some u → w.cell? ⟨b, off + (i * k + j), none⟩ = some u

theorem Tab.below {w w' : World} {a : Option Addr} {len cap k : Nat} {R : List (List Value)} (h : Tab w a len cap k R) (hb : Below w.heap.size w w') : Tab w' a len cap k R := by
  refine ⟨h.hlen, h.hle, h.hmax, h.hnil, fun hl => ?_⟩
  obtain ⟨b, off, ha, hlt, hc⟩ := h.hspot hl
  exact ⟨b, off, ha, Nat.lt_of_lt_of_le hlt hb.size, fun i r hr j u hu => (hb.cell (p := ⟨b, off + (i * k + j), none⟩) hlt).trans (hc i r hr j u hu)⟩

theorem Tab.row {w w' : World} {a : Option Addr} {len cap k : Nat} {R : List (List Value)} (h : Tab w a len cap k R) (hb : Below w.heap.size w w') {i : Nat} {r : List Value} (hr : R[i]? = some r) :
    ∃ b off, a = some ⟨b, off, none⟩ ∧ b < w.heap.size ∧ ∀ j u, r[j]? = some u → w'.cell? ⟨b, off + (i * k + j), none⟩ = some u := by
  have hi : i < len := by rw [← h.hlen]; exact (List.getElem?_eq_some_iff.1 hr).1
  obtain ⟨b, off, ha, hlt, hc⟩ := h.hspot (by omega)
  exact ⟨b, off, ha, hlt, fun j u hu => (hb.cell (p := ⟨b, off + (i * k + j), none⟩) hlt).trans (hc i r hr j u hu)⟩
/-- the one cell of element i, in a later world, as the walk spells its address -/
theorem Tab.one {w w' : World} {a : Option Addr} {len cap : Nat} {R : List (List Value)} (h : Tab w a len cap 1 R) (hb : Below w.heap.size w w') {i : Nat} {u : Value} (hr : R[i]? = some [u]) :
    ∃ b off, a = some ⟨b, off, none⟩ ∧ b < w.heap.size ∧ w'.cell? ⟨b, off + i, none⟩ = some u := by
  obtain ⟨b, off, ha, hlt, hc⟩ := h.row hb hr
  have := hc 0 u rfl
  rw [Nat.mul_one, Nat.add_zero] at this
  exact ⟨b, off, ha, hlt, this⟩
theorem Tab.two {w w' : World} {a : Option Addr} {len cap : Nat} {R : List (List Value)} (h : Tab w a len cap 2 R) (hb : Below w.heap.size w w') {i : Nat} {u v : Value} (hr : R[i]? = some [u, v]) :
    ∃ b off, a = some ⟨b, off, none⟩ ∧ b < w.heap.size ∧ w'.cell? ⟨b, off + i * 2, none⟩ = some u ∧ w'.cell? ⟨b, off + i * 2 + 1, none⟩ = some v := by
  obtain ⟨b, off, ha, hlt, hc⟩ := h.row hb hr
  have h0 := hc 0 u rfl
  have h1 := hc 1 v rfl
  rw [Nat.add_zero] at h0
  rw [← Nat.add_assoc] at h1
  exact ⟨b, off, ha, hlt, h0, h1⟩
theorem Tab.three {w w' : World} {a : Option Addr} {len cap : Nat} {R : List (List Value)} (h : Tab w a len cap 3 R) (hb : Below w.heap.size w w') {i : Nat} {u v x : Value} (hr : R[i]? = some [u, v, x]) :
    ∃ b off, a = some ⟨b, off, none⟩ ∧ b < w.heap.size ∧ w'.cell? ⟨b, off + i * 3, none⟩ = some u ∧ w'.cell? ⟨b, off + i * 3 + 1, none⟩ = some v ∧ w'.cell? ⟨b, off + i * 3 + 2, none⟩ = some x := by
  obtain ⟨b, off, ha, hlt, hc⟩ := h.row hb hr
  have h0 := hc 0 u rfl
  have h1 := hc 1 v rfl
  have h2 := hc 2 x rfl
  rw [Nat.add_zero] at h0
  rw [← Nat.add_assoc] at h1 h2
  exact ⟨b, off, ha, hlt, h0, h1, h2⟩
theorem map_get {α β : Type} {f : α → β} {l : List α} {i : Nat} {y : α} (h : l[i]? = some y) : (l.map f)[i]? = some (f y) := by
  rw [List.getElem?_map, h]; rfl
theorem some_get {α β : Type} {f : α → β} {l : List α} {len i : Nat} (h : (l.map f).length = len) (hi : i < len) : ∃ y, l[i]? = some y := by
  rw [List.length_map] at h
  exact ⟨_, List.getElem?_eq_getElem (by omega)⟩

theorem list_of {α : Type} (len : Nat) (Q : Nat → α → Prop) (h : ∀ i, i < len → ∃ y, Q i y) : ∃ l : List α, l.length = len ∧ ∀ i y, l[i]? = some y → Q i y := by
  induction len with
  | zero => exact ⟨[], rfl, fun i y e => by simp at e⟩
  | succ n ih =>
    obtain ⟨l, hl, hq⟩ := ih (fun i hi => h i (by omega))
    obtain ⟨y, hy⟩ := h n (by omega)
    refine ⟨l ++ [y], by simp [hl], fun i z e => ?_⟩
    by_cases hi : i < n
    · rw [List.getElem?_append_left (by omega)] at e
      exact hq i z e
    · by_cases hin : i = n
      · subst hin
        rw [List.getElem?_append_right (by omega), hl, Nat.sub_self] at e
        simp at e
        subst e
        exact hy
      · rw [List.getElem?_eq_none (by simp; omega)] at e
        cases e

section
variable {H : Type} {enc : TypeId × Value → H} {P : Program} {w : World} {base : Nat} {spare : Nat → Bool} {held : Bool}

/-- each text and each slice in a datum is within the reach of a process -/
def Light (P : Program) (t : TypeId) (d : DataW H) : Prop := ∀ n ∈ d.weights P t, n ≤ 140737488351232
theorem light_of {ts : List TypeId} {ds : List (DataW H)} (h : (DataW.weightsEach P ts ds).all (· ≤ reachBytes) = true) {j : Nat} {t : TypeId} {d : DataW H} (ht : ts[j]? = some t) (hd : ds[j]? = some d) : Light P t d := by
  intro n hn
  have h1 : decide (n ≤ reachBytes) = true := List.all_eq_true.1 h n (DataW.weights_mem_each ht hd n hn)
  exact of_decide_eq_true h1
theorem weightsAll_mem {e : TypeId} {ds : List (DataW H)} {d : DataW H} {n : Nat} (h : d ∈ ds) (hn : n ∈ d.weights P e) : n ∈ DataW.weightsAll P e ds := by
  induction ds with
  | nil => cases h
  | cons a r ih =>
    simp only [DataW.weightsAll, List.mem_append]
    rcases List.mem_cons.1 h with rfl | h
    · exact Or.inl hn
    · exact Or.inr (ih h)
theorem Light.elem {t e : TypeId} {elems rest : List (DataW H)} (ht : P.underlying t = some (.slice e)) (h : Light P t (.slice elems rest)) {d : DataW H} (hd : d ∈ elems) : Light P e d := by
  intro n hn
  refine h n ?_
  simp only [DataW.weights, ht, List.mem_cons, List.mem_append]
  exact Or.inr (Or.inl (weightsAll_mem hd hn))
theorem Light.len {t e : TypeId} {elems rest : List (DataW H)} (ht : P.underlying t = some (.slice e)) (h : Light P t (.slice elems rest)) : elems.length * P.bytesOf e ≤ 140737488351232 := by
  have := h ((elems.length + rest.length) * P.bytesOf e) (by simp [DataW.weights, ht])
  exact Nat.le_trans (Nat.mul_le_mul_right _ (Nat.le_add_right _ _)) this
theorem Light.field {t : TypeId} {fs : Array Field} {parts : List (DataW H)} (ht : P.underlying t = some (.struct fs)) (h : Light P t (.agg parts)) {j : Nat} {f : Field} {d : DataW H} (hf : fs[j]? = some f) (hd : parts[j]? = some d) : Light P f.type d := by
  intro n hn
  refine h n ?_
  simp only [DataW.weights, ht]
  exact DataW.weights_mem_each (j := j) (by simp [hf]) hd n hn

/-- a slice that came in: its elements, each read by 'cells' -/
theorem open_slice_of {α : Type} (cells : α → List Value) (ok : α → Prop) {t e : TypeId} {k : Nat} (hk : 0 < k) (ht : P.underlying t = some (.slice e)) (hC : P.cellsOf e = k)
    (hel : ∀ n cs x, DataW.trod enc P w base spare held n e cs = some x → Light P e x.1 → ∃ y : α, cs = cells y ∧ ok y)
    {a : Option Addr} {len cap n : Nat} {x : DataW H × List MemPlace} (h : DataW.trod enc P w base spare held n t [.slice a len cap] = some x) (hL : Light P t x.1) : ∃ l : List α, Tab w a len cap k (l.map cells) ∧ len * P.bytesOf e ≤ 140737488351232 ∧ ∀ y ∈ l, ok y := by
  rcases open_slice ht h with ⟨hcs, _⟩ | ⟨a', len', cap', m, n, D, Pl, hcs, hb, hl, hm, hmm, hx, hi⟩
  · simp only [List.cons.injEq, Value.slice.injEq, and_true] at hcs
    obtain ⟨rfl, rfl, rfl⟩ := hcs
    exact ⟨[], ⟨rfl, Nat.le_refl _, Nat.zero_le _, fun _ => rfl, fun h => absurd h (by omega)⟩, by simp, fun y hy => by cases hy⟩
  · simp only [List.cons.injEq, Value.slice.injEq, and_true] at hcs
    obtain ⟨rfl, rfl, rfl⟩ := hcs
    have hlm : len ≤ m := by rw [hmm]; split <;> omega
    rw [hx] at hL
    have hbig := Light.len ht hL
    rw [List.length_map, List.length_range] at hbig
    obtain ⟨l, hll, hq⟩ := list_of len (fun i y => w.cells? base (a'.add (i * k)) k = some (cells y) ∧ ok y) (fun i hil => by
      obtain ⟨cs', hc, ht'⟩ := hi i (by omega)
      obtain ⟨y, rfl, hy⟩ := hel _ _ _ ht' (Light.elem ht hL (List.mem_map.2 ⟨i, List.mem_range.2 hil, rfl⟩))
      rw [hC] at hc
      exact ⟨y, hc, hy⟩)
    refine ⟨l, ⟨by rw [List.length_map]; exact hll, hl, hm, fun h => (by cases h), fun hpos => ?_⟩, hbig, fun y hy => ?_⟩
    · have hcell : ∀ i r, (l.map cells)[i]? = some r → ∀ j u, r[j]? = some u → w.cell? (a'.add (i * k + j)) = some u := by
        intro i r hr j u hu
        rw [List.getElem?_map] at hr
        cases hy : l[i]? with
        | none => rw [hy] at hr; cases hr
        | some y =>
          rw [hy] at hr
          obtain rfl : cells y = r := by simpa using hr
          obtain ⟨hc, _⟩ := hq i y hy
          obtain ⟨_, hcl, hat⟩ := World.cells?_some hc
          have hj : j < k := by rw [← hcl]; exact (List.getElem?_eq_some_iff.1 hu).1
          rw [← add_add, hat j hj, hu]
      obtain ⟨y0, hy0⟩ : ∃ y, l[0]? = some y := by
        cases hz : l[0]? with
        | none => rw [List.getElem?_eq_none_iff] at hz; omega
        | some y => exact ⟨y, rfl⟩
      obtain ⟨u0, hu0⟩ : ∃ u, (cells y0)[0]? = some u := by
        obtain ⟨_, hcl, _⟩ := World.cells?_some (hq 0 y0 hy0).1
        exact ⟨(cells y0)[0]'(by omega), List.getElem?_eq_getElem _⟩
      have h0 := hcell 0 (cells y0) (by rw [List.getElem?_map, hy0]; rfl) 0 u0 hu0
      have e0 : a'.add (0 * k + 0) = a' := by rw [Nat.zero_mul, Nat.zero_add]; simp [Addr.add]
      rw [e0] at h0
      obtain ⟨b, off, sp⟩ := a'
      obtain rfl : sp = none := World.cell?_spot h0
      refine ⟨b, off, rfl, World.block_lt_of_cell? _ _ h0, fun i r hr j u hu => ?_⟩
      have := hcell i r hr j u hu
      have e1 : (Addr.mk b off none).add (i * k + j) = ⟨b, off + (i * k + j), none⟩ := by
        unfold Addr.add
        by_cases hz : i * k + j = 0
        · rw [if_pos hz, hz, Nat.add_zero]
        · rw [if_neg hz]
      rw [e1] at this
      exact this
    · obtain ⟨i, hi', rfl⟩ := List.mem_iff_getElem.1 hy
      exact (hq i _ (List.getElem?_eq_getElem hi')).2

/-! ### elements -/
def iC (n : Int) : List Value := [.int .i64 n]
def bC (b : Bool) : List Value := [.bool b]
def sC (s : ByteArray) : List Value := [.string s]
def wfI (n : Int) : Prop := (Lit.int .i64 n).wf = true
def wfS (s : ByteArray) : Prop := s.size ≤ 140737488351232
theorem el_int {e : TypeId} (he : P.underlying e = some (.int .i64)) : ∀ n cs x, DataW.trod enc P w base spare held n e cs = some x → Light P e x.1 → ∃ y : Int, cs = iC y ∧ wfI y := by
  intro n cs x h _
  obtain ⟨y, h1, _, h2⟩ := DataW.trod_int he h
  exact ⟨y, h1, h2⟩
theorem el_bool {e : TypeId} (he : P.underlying e = some .bool) : ∀ n cs x, DataW.trod enc P w base spare held n e cs = some x → Light P e x.1 → ∃ y : Bool, cs = bC y ∧ True := by
  intro n cs x h _
  obtain ⟨y, h1, _⟩ := DataW.trod_bool he h
  exact ⟨y, h1, trivial⟩
theorem el_str {e : TypeId} (he : P.underlying e = some .string) : ∀ n cs x, DataW.trod enc P w base spare held n e cs = some x → Light P e x.1 → ∃ y : ByteArray, cs = sC y ∧ wfS y := by
  intro n cs x h hL
  obtain ⟨y, h1, h3, h2⟩ := DataW.trod_string he h
  rw [h3] at hL
  exact ⟨y, h1, hL y.size (by simp [DataW.weights])⟩

/-- the cells of a struct of one-cell fields, each with its own reading -/
theorem struct_fields {e : TypeId} {fs : Array Field} (he : P.underlying e = some (.struct fs)) (hone : oneCellFields P fs = true) (hC : P.cellsOf e = fs.size) {n : Nat} {cs : List Value} {x : DataW H × List MemPlace}
    (h : DataW.trod enc P w base spare held n e cs = some x) (hL : Light P e x.1) : cs.length = fs.size ∧ ∀ (j : Nat) (f : Field), fs[j]? = some f → ∃ (v : Value) (y : DataW H × List MemPlace) (m : Nat), cs[j]? = some v ∧ DataW.trod enc P w base spare held m f.type [v] = some y ∧ Light P f.type y.1 := by
  obtain ⟨ys, m, _, hx, hlen, hyl, hf⟩ := DataW.trod_struct he h
  rw [hC] at hlen
  rw [hx] at hL
  refine ⟨hlen, fun j f hj => ?_⟩
  obtain ⟨ho, hk⟩ := hone_of hone j f hj
  have hjl : j < fs.size := (Array.getElem?_eq_some_iff.1 hj).1
  have h1 := hf j f hj
  rw [ho, hk] at h1
  have hone' : (cs.drop j).take 1 = [cs[j]'(by omega)] := by
    rw [List.drop_eq_getElem_cons (by omega)]
    rfl
  rw [hone', List.getElem?_eq_getElem (by omega)] at h1
  exact ⟨_, _, m, List.getElem?_eq_getElem (by omega), h1, Light.field he hL hj (by rw [List.getElem?_map, List.getElem?_eq_getElem (by omega)]; rfl)⟩
theorem list2 {l : List Value} (h : l.length = 2) : ∃ a b, l = [a, b] := by
  match l, h with
  | [a, b], _ => exact ⟨a, b, rfl⟩
theorem list3 {l : List Value} (h : l.length = 3) : ∃ a b c, l = [a, b, c] := by
  match l, h with
  | [a, b, c], _ => exact ⟨a, b, c, rfl⟩
theorem list4 {l : List Value} (h : l.length = 4) : ∃ a b c d, l = [a, b, c, d] := by
  match l, h with
  | [a, b, c, d], _ => exact ⟨a, b, c, d, rfl⟩
theorem struct2 {e : TypeId} {f0 f1 : Field} (he : P.underlying e = some (.struct #[f0, f1])) (hone : oneCellFields P #[f0, f1] = true) (hC : P.cellsOf e = 2) {n : Nat} {cs : List Value} {x : DataW H × List MemPlace}
    (h : DataW.trod enc P w base spare held n e cs = some x) (hL : Light P e x.1) : ∃ v0 v1 m0 m1 y0 y1, cs = [v0, v1] ∧ (DataW.trod enc P w base spare held m0 f0.type [v0] = some y0 ∧ Light P f0.type y0.1) ∧ (DataW.trod enc P w base spare held m1 f1.type [v1] = some y1 ∧ Light P f1.type y1.1) := by
  obtain ⟨hl, hf⟩ := struct_fields he hone hC h hL
  obtain ⟨v0, v1, rfl⟩ := list2 hl
  obtain ⟨u0, y0, m0, e0, t0⟩ := hf 0 f0 rfl
  obtain ⟨u1, y1, m1, e1, t1⟩ := hf 1 f1 rfl
  simp at e0 e1
  subst e0 e1
  exact ⟨_, _, m0, m1, y0, y1, rfl, t0, t1⟩
theorem struct3 {e : TypeId} {f0 f1 f2 : Field} (he : P.underlying e = some (.struct #[f0, f1, f2])) (hone : oneCellFields P #[f0, f1, f2] = true) (hC : P.cellsOf e = 3) {n : Nat} {cs : List Value} {x : DataW H × List MemPlace}
    (h : DataW.trod enc P w base spare held n e cs = some x) (hL : Light P e x.1) : ∃ v0 v1 v2 m0 m1 m2 y0 y1 y2, cs = [v0, v1, v2] ∧ (DataW.trod enc P w base spare held m0 f0.type [v0] = some y0 ∧ Light P f0.type y0.1) ∧ (DataW.trod enc P w base spare held m1 f1.type [v1] = some y1 ∧ Light P f1.type y1.1) ∧ (DataW.trod enc P w base spare held m2 f2.type [v2] = some y2 ∧ Light P f2.type y2.1) := by
  obtain ⟨hl, hf⟩ := struct_fields he hone hC h hL
  obtain ⟨v0, v1, v2, rfl⟩ := list3 hl
  obtain ⟨u0, y0, m0, e0, t0⟩ := hf 0 f0 rfl
  obtain ⟨u1, y1, m1, e1, t1⟩ := hf 1 f1 rfl
  obtain ⟨u2, y2, m2, e2, t2⟩ := hf 2 f2 rfl
  simp at e0 e1 e2
  subst e0 e1 e2
  exact ⟨_, _, _, m0, m1, m2, y0, y1, y2, rfl, t0, t1, t2⟩
theorem struct4 {e : TypeId} {f0 f1 f2 f3 : Field} (he : P.underlying e = some (.struct #[f0, f1, f2, f3])) (hone : oneCellFields P #[f0, f1, f2, f3] = true) (hC : P.cellsOf e = 4) {n : Nat} {cs : List Value} {x : DataW H × List MemPlace}
    (h : DataW.trod enc P w base spare held n e cs = some x) (hL : Light P e x.1) : ∃ v0 v1 v2 v3 m0 m1 m2 m3 y0 y1 y2 y3, cs = [v0, v1, v2, v3] ∧ (DataW.trod enc P w base spare held m0 f0.type [v0] = some y0 ∧ Light P f0.type y0.1) ∧ (DataW.trod enc P w base spare held m1 f1.type [v1] = some y1 ∧ Light P f1.type y1.1) ∧ (DataW.trod enc P w base spare held m2 f2.type [v2] = some y2 ∧ Light P f2.type y2.1) ∧ (DataW.trod enc P w base spare held m3 f3.type [v3] = some y3 ∧ Light P f3.type y3.1) := by
  obtain ⟨hl, hf⟩ := struct_fields he hone hC h hL
  obtain ⟨v0, v1, v2, v3, rfl⟩ := list4 hl
  obtain ⟨u0, y0, m0, e0, t0⟩ := hf 0 f0 rfl
  obtain ⟨u1, y1, m1, e1, t1⟩ := hf 1 f1 rfl
  obtain ⟨u2, y2, m2, e2, t2⟩ := hf 2 f2 rfl
  obtain ⟨u3, y3, m3, e3, t3⟩ := hf 3 f3 rfl
  simp at e0 e1 e2 e3
  subst e0 e1 e2 e3
  exact ⟨_, _, _, _, m0, m1, m2, m3, y0, y1, y2, y3, rfl, t0, t1, t2, t3⟩

/-- struct { string, string } -/
def ssC (p : ByteArray × ByteArray) : List Value := [.string p.1, .string p.2]
def wfSS (p : ByteArray × ByteArray) : Prop := p.1.size ≤ 140737488351232 ∧ p.2.size ≤ 140737488351232
theorem el_ss {e : TypeId} {f0 f1 : Field} (he : P.underlying e = some (.struct #[f0, f1])) (hone : oneCellFields P #[f0, f1] = true) (hC : P.cellsOf e = 2) (h0 : P.underlying f0.type = some .string) (h1 : P.underlying f1.type = some .string) :
    ∀ n cs x, DataW.trod enc P w base spare held n e cs = some x → Light P e x.1 → ∃ y : ByteArray × ByteArray, cs = ssC y ∧ wfSS y := by
  intro n cs x h hL
  obtain ⟨v0, v1, m0, m1, y0, y1, rfl, t0, t1⟩ := struct2 he hone hC h hL
  obtain ⟨s0, e0, k0⟩ := el_str h0 _ _ _ t0.1 t0.2
  obtain ⟨s1, e1, k1⟩ := el_str h1 _ _ _ t1.1 t1.2
  simp [iC, sC] at e0 e1
  subst e0 e1
  exact ⟨(s0, s1), rfl, k0, k1⟩
/-- struct { int, int } -/
def iiC (p : Int × Int) : List Value := [.int .i64 p.1, .int .i64 p.2]
def wfII (p : Int × Int) : Prop := wfI p.1 ∧ wfI p.2
theorem el_ii {e : TypeId} {f0 f1 : Field} (he : P.underlying e = some (.struct #[f0, f1])) (hone : oneCellFields P #[f0, f1] = true) (hC : P.cellsOf e = 2) (h0 : P.underlying f0.type = some (.int .i64)) (h1 : P.underlying f1.type = some (.int .i64)) :
    ∀ n cs x, DataW.trod enc P w base spare held n e cs = some x → Light P e x.1 → ∃ y : Int × Int, cs = iiC y ∧ wfII y := by
  intro n cs x h hL
  obtain ⟨v0, v1, m0, m1, y0, y1, rfl, t0, t1⟩ := struct2 he hone hC h hL
  obtain ⟨s0, e0, k0⟩ := el_int h0 _ _ _ t0.1 t0.2
  obtain ⟨s1, e1, k1⟩ := el_int h1 _ _ _ t1.1 t1.2
  simp [iC, sC] at e0 e1
  subst e0 e1
  exact ⟨(s0, s1), rfl, k0, k1⟩
/-- struct { string, int, int } -/
def siiC (p : ByteArray × Int × Int) : List Value := [.string p.1, .int .i64 p.2.1, .int .i64 p.2.2]
def wfSII (p : ByteArray × Int × Int) : Prop := p.1.size ≤ 140737488351232 ∧ wfI p.2.1 ∧ wfI p.2.2
theorem el_sii {e : TypeId} {f0 f1 f2 : Field} (he : P.underlying e = some (.struct #[f0, f1, f2])) (hone : oneCellFields P #[f0, f1, f2] = true) (hC : P.cellsOf e = 3) (h0 : P.underlying f0.type = some .string) (h1 : P.underlying f1.type = some (.int .i64)) (h2 : P.underlying f2.type = some (.int .i64)) :
    ∀ n cs x, DataW.trod enc P w base spare held n e cs = some x → Light P e x.1 → ∃ y : ByteArray × Int × Int, cs = siiC y ∧ wfSII y := by
  intro n cs x h hL
  obtain ⟨v0, v1, v2, m0, m1, m2, y0, y1, y2, rfl, t0, t1, t2⟩ := struct3 he hone hC h hL
  obtain ⟨s0, e0, k0⟩ := el_str h0 _ _ _ t0.1 t0.2
  obtain ⟨s1, e1, k1⟩ := el_int h1 _ _ _ t1.1 t1.2
  obtain ⟨s2, e2, k2⟩ := el_int h2 _ _ _ t2.1 t2.2
  simp [iC, sC] at e0 e1 e2
  subst e0 e1 e2
  exact ⟨(s0, s1, s2), rfl, k0, k1, k2⟩
/-- one cell that holds a slice -/
structure Sl (α : Type) where
  a : Option Addr
  len : Nat
  cap : Nat
  l : List α
def slC {α : Type} (s : Sl α) : List Value := [.slice s.a s.len s.cap]
theorem el_slice {α : Type} (cells : α → List Value) (ok : α → Prop) {t e : TypeId} {k : Nat} (hk : 0 < k) (ht : P.underlying t = some (.slice e)) (hC : P.cellsOf e = k)
    (hel : ∀ n cs x, DataW.trod enc P w base spare held n e cs = some x → Light P e x.1 → ∃ y : α, cs = cells y ∧ ok y) {B : Nat} (hB : P.bytesOf e = B) :
    ∀ n cs x, DataW.trod enc P w base spare held n t cs = some x → Light P t x.1 → ∃ y : Sl α, cs = slC y ∧ (Tab w y.a y.len y.cap k (y.l.map cells) ∧ y.len * B ≤ 140737488351232 ∧ ∀ z ∈ y.l, ok z) := by
  intro n cs x h hL
  have hcs : ∃ a len cap, cs = [.slice a len cap] := by
    rcases open_slice ht h with ⟨hcs, _⟩ | ⟨a', len', cap', m, n, D, Pl, hcs, _⟩
    · exact ⟨_, _, _, hcs⟩
    · exact ⟨_, _, _, hcs⟩
  obtain ⟨a, len, cap, rfl⟩ := hcs
  obtain ⟨l, h1, h3, h2⟩ := open_slice_of cells ok hk ht hC hel h hL
  rw [hB] at h3
  exact ⟨⟨a, len, cap, l⟩, rfl, h1, h3, h2⟩
theorem trod_slice_of {t e : TypeId} {a : Option Addr} {len cap : Nat} {d : DataW H} {p : List MemPlace} (_ht : P.underlying t = some (.slice e)) (h : DataW.Trod enc P w base spare held t (.slice a len cap) d p) : ∃ n, DataW.trod enc P w base spare held n t [.slice a len cap] = some (d, p) := by
  obtain ⟨n, hf⟩ := h
  exact ⟨n, hf⟩
theorem trod_agg_of {t : TypeId} {cs : Array Value} {d : DataW H} {p : List MemPlace} (h : DataW.Trod enc P w base spare held t (.agg cs) d p) : ∃ n, DataW.trod enc P w base spare held n t cs.toList = some (d, p) := by
  obtain ⟨n, hf⟩ := h
  exact ⟨n, hf⟩
end

end Go.Proofs.YtffgoekdjcempaaGreat
