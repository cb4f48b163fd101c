/- Slices of slices of ints: what came in or was made, and such that a call makes itself and writes. -/
import Derived.Test.YtcfejbhoeichnaaTabMath
import Derived.Test.YtcfejbhoeichnaaMany
import Derived.Test.YtcfejbhoeichnaaInfoInts
namespace Go.Proofs.Ytcfejbhoeichnaa
open Go.ChangeShapes Go.WideShapes Go.ChangeAt Go.RowKit
namespace Tbl

/-- a slice of slices of ints in the heap, its rows R; each block of it meets P -/
def TTx (w : World) (P : Nat → Prop) (a : Option Addr) (len cap : Nat) (R : List (List Int)) : Prop :=
  ∃ S : List (Sl Int), S.map (fun s => s.l) = R ∧ Tab w a len cap 1 (S.map slC) ∧ (∀ s ∈ S, Tab w s.a s.len s.cap 1 (s.l.map iC)) ∧ (0 < len → ∀ ad, a = some ad → P ad.block) ∧ (∀ s ∈ S, 0 < s.len → ∀ ad, s.a = some ad → P ad.block)
def anyB (_ : Nat) : Prop := True
theorem TTx.below {w w' : World} {P : Nat → Prop} {a : Option Addr} {len cap : Nat} {R : List (List Int)} (h : TTx w P a len cap R) (hb : Below w.heap.size w w') : TTx w' P a len cap R := by
  obtain ⟨S, h1, h2, h3, h4, h5⟩ := h
  exact ⟨S, h1, h2.below hb, fun s hs => (h3 s hs).below hb, h4, h5⟩
theorem TTx.weak {w : World} {P Q : Nat → Prop} {a : Option Addr} {len cap : Nat} {R : List (List Int)} (h : TTx w P a len cap R) (hPQ : ∀ b, P b → Q b) : TTx w Q a len cap R := by
  obtain ⟨S, h1, h2, h3, h4, h5⟩ := h
  exact ⟨S, h1, h2, h3, fun hl ad ha => hPQ _ (h4 hl ad ha), fun s hs hl ad ha => hPQ _ (h5 s hs hl ad ha)⟩
theorem TTx.any {w : World} {P : Nat → Prop} {a : Option Addr} {len cap : Nat} {R : List (List Int)} (h : TTx w P a len cap R) : TTx w anyB a len cap R := h.weak (fun _ _ => trivial)
/-- each block lies in the heap -/
theorem TTx.size {w : World} {P : Nat → Prop} {a : Option Addr} {len cap : Nat} {R : List (List Int)} (h : TTx w P a len cap R) : TTx w (fun b => P b ∧ b < w.heap.size) a len cap R := by
  obtain ⟨S, h1, h2, h3, h4, h5⟩ := h
  refine ⟨S, h1, h2, h3, fun hl ad ha => ⟨h4 hl ad ha, ?_⟩, fun s hs hl ad ha => ⟨h5 s hs hl ad ha, ?_⟩⟩
  · obtain ⟨b, off, ha', hlt, _⟩ := h2.hspot hl
    rw [ha'] at ha
    simp only [Option.some.injEq] at ha
    subst ha
    exact hlt
  · obtain ⟨b, off, ha', hlt, _⟩ := (h3 s hs).hspot hl
    rw [ha'] at ha
    simp only [Option.some.injEq] at ha
    subst ha
    exact hlt
theorem tab_off {w : World} {a : Option Addr} {n c : Nat} {R : List (List Value)} (h : Tab w a n c 1 R) (Y : Nat) (hY : 0 < n → ∀ ad, a = some ad → ad.block ≠ Y) (i : Nat) (v : Value) : Tab (w.setCell ⟨Y, i, none⟩ v) a n c 1 R := by
  refine ⟨h.hlen, h.hle, h.hmax, h.hnil, fun hl => ?_⟩
  obtain ⟨b, off, ha, hlt, hc⟩ := h.hspot hl
  have hne := hY hl _ ha
  refine ⟨b, off, ha, by simpa using hlt, fun i r hr j u hu => ?_⟩
  rw [World.cell?_of_block (Below.heap_setCell _ _ _ _ hne)]
  exact hc i r hr j u hu
/-- a store elsewhere -/
theorem TTx.set {w : World} {P : Nat → Prop} {a : Option Addr} {len cap : Nat} {R : List (List Int)} (h : TTx w P a len cap R) {Y : Nat} (hY : ∀ b, P b → b ≠ Y) (i : Nat) (v : Value) : TTx (w.setCell ⟨Y, i, none⟩ v) P a len cap R := by
  obtain ⟨S, h1, h2, h3, h4, h5⟩ := h
  exact ⟨S, h1, tab_off h2 Y (fun hl ad ha => hY _ (h4 hl ad ha)) i v, fun s hs => tab_off (h3 s hs) Y (fun hl ad ha => hY _ (h5 s hs hl ad ha)) i v, h4, h5⟩
theorem TTx.len {w : World} {P : Nat → Prop} {a : Option Addr} {len cap : Nat} {R : List (List Int)} (h : TTx w P a len cap R) : R.length = len := by
  obtain ⟨S, h1, h2, _⟩ := h
  have := h2.hlen
  rw [List.length_map] at this
  rw [← h1, List.length_map, this]
theorem TTx.max {w : World} {P : Nat → Prop} {a : Option Addr} {len cap : Nat} {R : List (List Int)} (h : TTx w P a len cap R) : len ≤ cap ∧ cap ≤ 9223372036854775807 := by
  obtain ⟨S, h1, h2, _⟩ := h
  have h3 := h2.hmax
  unfold maxLen at h3
  exact ⟨h2.hle, h3⟩
/-- row number i, in a later world -/
theorem TTx.row {w w' : World} {P : Nat → Prop} {a : Option Addr} {len cap : Nat} {R : List (List Int)} (h : TTx w P a len cap R) (hb : Below w.heap.size w w') {i : Nat} {r : List Int} (hr : R[i]? = some r) :
    ∃ (b off : Nat) (q : Option Addr) (n c : Nat), a = some ⟨b, off, none⟩ ∧ b < w.heap.size ∧ w'.cell? ⟨b, off + i, none⟩ = some (.slice q n c) ∧ Tab w' q n c 1 (r.map iC) ∧ r.length = n ∧ n ≤ c ∧ c ≤ 9223372036854775807 := by
  obtain ⟨S, h1, h2, h3, _⟩ := h
  rw [← h1, List.getElem?_map] at hr
  cases hs : S[i]? with
  | none => rw [hs] at hr; cases hr
  | some s =>
    rw [hs, Option.map_some, Option.some.injEq] at hr
    subst hr
    obtain ⟨b, off, ha, hlt, hc⟩ := h2.one hb (map_get hs)
    have hT := h3 s (List.mem_of_getElem? hs)
    have hl := hT.hlen
    rw [List.length_map] at hl
    have hm := hT.hmax
    unfold maxLen at hm
    exact ⟨b, off, s.a, s.len, s.cap, ha, hlt, hc, hT.below hb, hl, hT.hle, hm⟩
theorem TTx.nil (w : World) (P : Nat → Prop) : TTx w P none 0 0 [] := ⟨[], rfl, ⟨rfl, Nat.le_refl _, Nat.zero_le _, fun _ => rfl, fun h => absurd h (Nat.lt_irrefl 0)⟩, fun s hs => (List.not_mem_nil hs).elim, fun h => absurd h (Nat.lt_irrefl 0), fun s hs => (List.not_mem_nil hs).elim⟩
theorem TTx.of {w : World} {a : Option Addr} {len cap : Nat} {L : List (Sl Int)} (h : Tab w a len cap 1 (L.map slC)) (h2 : ∀ s ∈ L, Tab w s.a s.len s.cap 1 (s.l.map iC)) : TTx w anyB a len cap (L.map (fun s => s.l)) := ⟨L, rfl, h, h2, fun _ _ _ => trivial, fun _ _ _ _ _ => trivial⟩

/-! ### slices of slices that a call makes itself and writes -/
structure Grid (w : World) (base : Nat) (v : Value) (l : List (Value × List Int)) : Prop where
  out : Own w base 34 1 v (l.map (fun p => [p.1]))
  inn : Many w base 3 l
  off : ∀ p ∈ l, Apart v p.1
theorem Grid.alloc {w : World} {base : Nat} {v : Value} {l : List (Value × List Int)} (h : Grid w base v l) (o : Obj) : Grid (w.alloc o) base v l := ⟨h.out.alloc o, h.inn.alloc o, h.off⟩
theorem Grid.below {w w' : World} {base : Nat} {v : Value} {l : List (Value × List Int)} (h : Grid w base v l) (hb : Below w.heap.size w w') : Grid w' base v l := ⟨h.out.below hb, h.inn.below hb, h.off⟩
theorem Grid.base_le {w : World} {base B : Nat} {v : Value} {l : List (Value × List Int)} (h : Grid w base v l) (hB : B ≤ base) : Grid w B v l := ⟨h.out.base_le hB, h.inn.base hB, h.off⟩
theorem own_val {w : World} {base : Nat} {e : TypeId} {v : Value} {L : List Int} (h : Own w base e 1 v (L.map iC)) : ∃ a c, v = .slice a L.length c ∧ Tab w a L.length c 1 (L.map iC) ∧ ∀ ad, a = some ad → base ≤ ad.block := by
  rcases h.own.2 with ⟨h0, h1⟩ | ⟨g, cap, cur, h0, hg, _⟩
  · rw [List.length_map] at h1
    refine ⟨none, 0, by rw [h1]; exact h0, ?_, fun ad ha => by cases ha⟩
    subst h0
    rw [h1]
    exact h.tab_of
  · rw [List.length_map] at h0
    refine ⟨some ⟨g, 0, none⟩, cap, h0, ?_, fun ad ha => ?_⟩
    · subst h0
      exact h.tab_of
    · rw [Option.some.injEq] at ha
      subst ha
      exact hg
/-- such a one is read as any other -/
theorem Grid.tt {w : World} {base : Nat} {v : Value} {l : List (Value × List Int)} (h : Grid w base v l) : ∃ a c, v = .slice a l.length c ∧ TTx w (fun b => base ≤ b) a l.length c (l.map (fun p => p.2)) := by
  have h1 : ∃ S : List (Sl Int), S.length = l.length ∧ ∀ (i : Nat) (p : Value × List Int) (s : Sl Int), l[i]? = some p → S[i]? = some s → p.1 = .slice s.a s.len s.cap ∧ s.l = p.2 ∧ Tab w s.a s.len s.cap 1 (s.l.map iC) ∧ ∀ ad, s.a = some ad → base ≤ ad.block := by
    obtain ⟨S, hS, hq⟩ := list_of (α := Sl Int) l.length (fun i s => ∀ p, l[i]? = some p → p.1 = .slice s.a s.len s.cap ∧ s.l = p.2 ∧ Tab w s.a s.len s.cap 1 (s.l.map iC) ∧ ∀ ad, s.a = some ad → base ≤ ad.block) (fun i hi => by
      obtain ⟨a, c, e, hT, hB⟩ := own_val (h.inn.own _ (List.getElem_mem hi))
      refine ⟨⟨a, (l[i]'hi).2.length, c, (l[i]'hi).2⟩, fun p hp => ?_⟩
      rw [List.getElem?_eq_getElem hi, Option.some.injEq] at hp
      subst hp
      exact ⟨e, rfl, hT, hB⟩)
    exact ⟨S, hS, fun i p s hp hs => hq i s hs p hp⟩
  obtain ⟨S, hSl, hS⟩ := h1
  have hrows : S.map slC = l.map (fun p => [p.1]) := by
    apply List.ext_getElem?
    intro i
    rw [List.getElem?_map, List.getElem?_map]
    by_cases hi : i < l.length
    · rw [List.getElem?_eq_getElem hi, List.getElem?_eq_getElem (by omega), Option.map_some, Option.map_some, (hS i _ _ (List.getElem?_eq_getElem hi) (List.getElem?_eq_getElem (by omega))).1]
      rfl
    · rw [List.getElem?_eq_none (by omega), List.getElem?_eq_none (by omega)]; rfl
  have hls : S.map (fun s => s.l) = l.map (fun p => p.2) := by
    apply List.ext_getElem?
    intro i
    rw [List.getElem?_map, List.getElem?_map]
    by_cases hi : i < l.length
    · rw [List.getElem?_eq_getElem hi, List.getElem?_eq_getElem (by omega), Option.map_some, Option.map_some, (hS i _ _ (List.getElem?_eq_getElem hi) (List.getElem?_eq_getElem (by omega))).2.1]
    · rw [List.getElem?_eq_none (by omega), List.getElem?_eq_none (by omega)]; rfl
  have hin : ∀ s ∈ S, Tab w s.a s.len s.cap 1 (s.l.map iC) ∧ ∀ ad, s.a = some ad → base ≤ ad.block := fun s hs => by
    obtain ⟨i, hi⟩ := List.getElem?_of_mem hs
    have hil := (List.getElem?_eq_some_iff.1 hi).1
    have := hS i _ s (List.getElem?_eq_getElem (by omega)) hi
    exact ⟨this.2.2.1, this.2.2.2⟩
  have hO := h.out
  rw [← hrows] at hO
  rcases hO.own.2 with ⟨h0, hn⟩ | ⟨g, cap, cur, h0, hg, hc, _⟩
  · rw [List.length_map] at hn
    have hl0 : l.length = 0 := by omega
    refine ⟨none, 0, by rw [hl0]; exact h0, ?_⟩
    subst h0
    rw [hl0]
    exact ⟨S, hls, hO.tab_of, fun s hs => (hin s hs).1, fun hl => absurd hl (Nat.lt_irrefl 0), fun s hs _ ad ha => (hin s hs).2 ad ha⟩
  · rw [List.length_map, hSl] at h0
    refine ⟨some ⟨g, 0, none⟩, cap, h0, ?_⟩
    subst h0
    refine ⟨S, hls, hO.tab_of, fun s hs => (hin s hs).1, fun _ ad ha => ?_, fun s hs _ ad ha => (hin s hs).2 ad ha⟩
    rw [Option.some.injEq] at ha
    subst ha
    exact hg
/-- a store into a block that is none of its own -/
theorem own_else {w : World} {base : Nat} {e : TypeId} {k : Nat} {v : Value} {R : List (List Value)} (h : Own w base e k v R) {a : Addr} (ha : v.ownBlock ≠ some a.block) (x : Value) : Own (w.setCell a x) base e k v R := by
  refine h.keptBy (grown_cell w a x) ?_
  exact Or.inr ha
theorem Grid.setCell {w : World} {base : Nat} {v : Value} {l : List (Value × List Int)} (h : Grid w base v l) {a : Addr} (ha : a.block < base) (x : Value) : Grid (w.setCell a x) base v l := by
  have hne : ∀ {e : TypeId} {k : Nat} {u : Value} {R : List (List Value)}, Own w base e k u R → u.ownBlock ≠ some a.block := fun hu hx => by
    have := (hu.own.lt _ hx).1
    omega
  exact ⟨own_else h.out (hne h.out) x, ⟨fun p hp => own_else (h.inn.own p hp) (hne (h.inn.own p hp)) x, h.inn.apart⟩, h.off⟩
/-- a store into one of the rows -/
theorem Grid.set {w : World} {base : Nat} {v : Value} {A B : List (Value × List Int)} {g n c : Nat} {L : List Int} (h : Grid w base v (A ++ (.slice (some ⟨g, 0, none⟩) n c, L) :: B)) {i : Nat} {y : Int} (hy : L[i]? = some y) (z : Int) :
    Grid (w.setCell ⟨g, i, none⟩ (.int .i64 z)) base v (A ++ (.slice (some ⟨g, 0, none⟩) n c, L.set i z) :: B) := by
  refine ⟨?_, h.inn.set hy z, fun p hp => ?_⟩
  · have h1 := h.off (.slice (some ⟨g, 0, none⟩) n c, L) (by simp)
    have h2 := own_else h.out (a := ⟨g, i, none⟩) (fun hx => h1 g hx rfl) (.int .i64 z)
    have e : (A ++ (Value.slice (some ⟨g, 0, none⟩) n c, L.set i z) :: B).map (fun p => [p.1]) = (A ++ (Value.slice (some ⟨g, 0, none⟩) n c, L) :: B).map (fun p => [p.1]) := by simp
    rw [e]
    exact h2
  · rcases mem_parts hp with rfl | hp | hp
    · exact h.off (.slice (some ⟨g, 0, none⟩) n c, L) (by simp)
    · exact h.off p (List.mem_append_left _ hp)
    · exact h.off p (List.mem_append_right _ (List.mem_cons_of_mem _ hp))
/-- what the walk reads of row i -/
theorem Grid.at_ {w : World} {base g0 n0 c0 : Nat} {l : List (Value × List Int)} (h : Grid w base (.slice (some ⟨g0, 0, none⟩) n0 c0) l) {i : Nat} {p : Value × List Int} (hp : l[i]? = some p) :
    w.cell? ⟨g0, i, none⟩ = some p.1 ∧ w.frozen? ⟨g0, i, none⟩ = false ∧ base ≤ g0 ∧ g0 < w.heap.size := h.out.at1 (map_get hp)
theorem Grid.row {w : World} {base : Nat} {v : Value} {l : List (Value × List Int)} (h : Grid w base v l) {i : Nat} {p : Value × List Int} (hp : l[i]? = some p) (hl : 0 < p.2.length) : ∃ g c, p.1 = .slice (some ⟨g, 0, none⟩) p.2.length c ∧ base ≤ g ∧ g < w.heap.size ∧ Own w base 3 1 (.slice (some ⟨g, 0, none⟩) p.2.length c) (p.2.map iC) := by
  have hO := h.inn.own p (List.mem_of_getElem? hp)
  rcases hO.own.2 with ⟨_, h0'⟩ | ⟨g', cap', cur, h0, hg, hc, _⟩
  · rw [List.length_map] at h0'; omega
  · rw [List.length_map] at h0
    rw [h0] at hO
    exact ⟨g', cap', h0, hg, (Array.getElem?_eq_some_iff.1 hc).1, hO⟩
/-- a new row in place of an empty one -/
theorem Grid.put {w w1 : World} {base g0 n0 c0 : Nat} {A B : List (Value × List Int)} {u : Value} {L : List Int} (h : Grid w base (.slice (some ⟨g0, 0, none⟩) n0 c0) (A ++ (.slice none 0 0, []) :: B)) (hO : Own w1 w.heap.size 3 1 u (L.map iC)) (hb : Below w.heap.size w w1) :
    Grid (w1.setCell ⟨g0, A.length, none⟩ u) base (.slice (some ⟨g0, 0, none⟩) n0 c0) (A ++ (u, L) :: B) := by
  have hg0 : base ≤ g0 ∧ g0 < w.heap.size := by
    have h0 : (A ++ (Value.slice none 0 0, ([] : List Int)) :: B)[A.length]? = some (.slice none 0 0, []) := by rw [List.getElem?_append_right (Nat.le_refl _)]; simp
    have := h.at_ h0
    exact this.2.2
  have hbw : base ≤ w.heap.size := by omega
  have hu : ∀ b, u.ownBlock = some b → w.heap.size ≤ b := fun b hb' => (hO.own.lt b hb').1
  have hug : u.ownBlock ≠ some g0 := fun hx => by have := hu g0 hx; omega
  have h1 := h.below hb
  obtain ⟨a1, a2, a3⟩ := apart_mid h1.inn.apart
  have o1 : ∀ q ∈ A, Own w base 3 1 q.1 (q.2.map iC) := fun q hq => h.inn.own q (List.mem_append_left _ hq)
  have o2 : ∀ q ∈ B, Own w base 3 1 q.1 (q.2.map iC) := fun q hq => h.inn.own q (List.mem_append_right _ (List.mem_cons_of_mem _ hq))
  have ap : ∀ q : Value × List Int, Own w base 3 1 q.1 (q.2.map iC) → Apart u q.1 := fun q hq b h2 h3 => by
    have k1 := hu b h2
    have k2 := (hq.own.lt b h3).2
    omega
  have f0 : ∀ q : Value × List Int, Apart (.slice (some ⟨g0, 0, none⟩) n0 c0) q.1 → q.1.ownBlock ≠ some g0 := fun q hq hx => hq g0 rfl hx
  refine ⟨?_, ⟨fun p hp => ?_, apart_put (fun q hq => ap q (o1 q hq)) (fun q hq => ap q (o2 q hq)) a3⟩, fun p hp => ?_⟩
  · have hr : ((A ++ (Value.slice none 0 0, ([] : List Int)) :: B).map (fun p => [p.1]))[A.length]? = some [Value.slice none 0 0] := by
      rw [List.getElem?_map, List.getElem?_append_right (Nat.le_refl _)]; simp
    have h2 := h1.out.set1 hr u
    have e : ((A ++ (Value.slice none 0 0, ([] : List Int)) :: B).map (fun p => [p.1])).set A.length [u] = (A ++ (u, L) :: B).map (fun p => [p.1]) := by
      rw [List.map_append, List.map_append, List.set_append_right _ _ (by simp)]
      simp
    rw [e] at h2
    exact h2
  · rcases mem_parts hp with rfl | hp | hp
    · exact own_else (hO.base_le hbw) (a := ⟨g0, A.length, none⟩) hug u
    · exact own_else (h1.inn.own p (List.mem_append_left _ hp)) (a := ⟨g0, A.length, none⟩) (f0 p (h.off p (List.mem_append_left _ hp))) u
    · exact own_else (h1.inn.own p (List.mem_append_right _ (List.mem_cons_of_mem _ hp))) (a := ⟨g0, A.length, none⟩) (f0 p (h.off p (List.mem_append_right _ (List.mem_cons_of_mem _ hp)))) u
  · rcases mem_parts hp with rfl | hp | hp
    · intro b h2 h3
      have : b = g0 := by simpa [Value.ownBlock] using h2.symm
      subst this
      exact hug h3
    · exact h.off p (List.mem_append_left _ hp)
    · exact h.off p (List.mem_append_right _ (List.mem_cons_of_mem _ hp))
theorem flat_nils (n : Nat) : ((List.replicate n ((Value.slice none 0 0), ([] : List Int))).map (fun p => [p.1])).flatten = List.replicate n (Value.slice none 0 0) := by
  induction n with
  | zero => rfl
  | succ n ih => rw [List.replicate_succ, List.map_cons, List.flatten_cons, ih, List.replicate_succ]; rfl
theorem made_nils (n : Nat) : ((List.replicate n ((Value.slice none 0 0), ([] : List Int))).map (fun p => [p.1])).length = n ∧ ((List.replicate n ((Value.slice none 0 0), ([] : List Int))).map (fun p => [p.1])).flatten = (madeCells (Value.slice none 0 0).cells (n * 1)).toList ∧ ∀ r ∈ (List.replicate n ((Value.slice none 0 0), ([] : List Int))).map (fun p => [p.1]), r.length = 1 := by
  refine ⟨by simp, ?_, ?_⟩
  · rw [flat_nils, Nat.mul_one]
    apply List.ext_getElem?
    intro i
    simp [madeCells, Value.cells, List.getElem?_replicate]
    by_cases h : i < n
    · rw [if_pos h, List.getElem?_eq_getElem (by simpa using h)]
      simp [Nat.mod_one]
    · rw [if_neg h, List.getElem?_eq_none (by simpa using h)]
      rfl
  · intro r hr
    obtain ⟨x, _, rfl⟩ := List.mem_map.1 hr
    rfl
theorem Grid.made {w : World} {base : Nat} {v : Value} {n : Nat} (h : w.ownsRow base 34 1 v n (madeCells (Value.slice none 0 0).cells (n * 1)).toList) : Grid w base v (List.replicate n ((Value.slice none 0 0), ([] : List Int))) := by
  refine ⟨Own.full h (made_nils n), ⟨fun p hp => ?_, ?_⟩, fun p hp => ?_⟩
  · rw [List.eq_of_mem_replicate hp]; exact Own.nil _ _ _ _
  · rw [List.pairwise_replicate]
    right
    exact apart_nil _
  · rw [List.eq_of_mem_replicate hp]; exact (apart_nil _).symm
end Tbl
end Go.Proofs.Ytcfejbhoeichnaa
