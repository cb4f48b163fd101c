/- Texts joined: OwnTwo, Many, TabGrid. -/
import Derived.Test.YtffgoekdjcempabGr4
import Derived.Maps.AppendAt
import Derived.Test.YtffgoekdjcempabGr6
import Derived.Test.YtffgoekdjcempabGr12
/- Two slices of the call's own that lie apart. For every program. -/
namespace Go.Proofs.Ytffgoekdjcempab
open Go.RowKit

/-- two values whose own blocks, if they have any, are not one -/
def Apart (v u : Value) : Prop := ∀ g, v.ownBlock = some g → u.ownBlock ≠ some g
theorem Apart.symm {v u : Value} (h : Apart v u) : Apart u v := fun g h1 h2 => h g h2 h1
theorem Apart.or {v u : Value} (h : Apart v u) : v.ownBlock = none ∨ v.ownBlock ≠ u.ownBlock := by
  cases e : v.ownBlock with
  | none => exact Or.inl rfl
  | some g => exact Or.inr (fun h2 => h g e h2.symm)
theorem apart_nil (u : Value) : Apart (.slice none 0 0) u := fun g h => by cases h
theorem Own.keptBy {w w' : World} {base : Nat} {e : TypeId} {k : Nat} {v : Value} {R : List (List Value)} {row : Option Nat} (h : Own w base e k v R) (hg : w.grownBy w' row) (hne : v.ownBlock = none ∨ v.ownBlock ≠ row) : Own w' base e k v R := ⟨h.own.kept hg hne, h.rows⟩
theorem grown_cell (w : World) (a : Addr) (u : Value) : w.grownBy (w.setCell a u) (some a.block) :=
  ⟨rfl, rfl, rfl, by simp [World.setCell], fun k _ hne => Below.heap_setCell w a u k (fun e => hne (by rw [e]))⟩
theorem Own.beside {w : World} {base : Nat} {e : TypeId} {k : Nat} {v u : Value} {R : List (List Value)} {g i : Nat} (h : Own w base e k u R) (ha : Apart v u) (hv : v.ownBlock = some g) (x : Value) : Own (w.setCell ⟨g, i, none⟩ x) base e k u R := by
  refine h.keptBy (grown_cell w ⟨g, i, none⟩ x) ?_
  have := ha.symm.or
  rw [hv] at this
  exact this
/-- behind an append: still apart -/
theorem Apart.append {w : World} {base : Nat} {e : TypeId} {k : Nat} {v v' u : Value} {R : List (List Value)} {H : Nat} (ha : Apart v u) (hu : Own w base e k u R) (hH : w.heap.size ≤ H) (hat : v'.ownBlock = v.ownBlock ∨ v'.ownBlock = some H) : Apart v' u := by
  intro g hg hu2
  rcases hat with h | h
  · exact ha g (h.symm.trans hg) hu2
  · rw [h] at hg
    have := (hu.own.lt g hu2).2
    simp at hg
    omega
theorem wpList_append_rows_at {P : Program} (w : World) {ops : Array Oper} {rest : List Oper} {o : Oper} {a : Act} {Q : Exit → Act → World → Prop} (hgd : o.guard = none) (s x : Operand) (t : TypeId)
    (ho : o.op = .call { callee := .builtin .append, args := #[s, x], argTypes := #[t, t] })
    (base : Nat) (e : TypeId) (z : Value) (k bytes : Nat) (ht : P.underlying t = some (.slice e)) (hinfo : (P.info? e).map (fun i => (i.zero, i.size, i.bytes)) = some (some z, k, bytes)) (hzs : z.cells.size = k) (hsz : 0 < k)
    (v : Value) (R : List (List Value)) (hs : a.eval s = v) (hown : Own w base e k v R)
    (ad : Addr) (m c : Nat) (N : List (List Value)) (hm : N.length = m) (hx : a.eval x = .slice (some ad) m c) (hN : ∀ r ∈ N, r.length = k) (hnews : ∀ j u, N.flatten[j]? = some u → w.cell? (ad.add j) = some u) (h1 : ∀ u ∈ N.flatten, u.oneCell' = true)
    (h63 : (R.length + m) * bytes ≤ 140737488355328) (hby : 0 < bytes) (hbase : base ≤ w.heap.size)
    (h : ∀ v' w', Own w' base e k v' (R ++ N) → w.grownBy w' v.ownBlock → (v'.ownBlock = v.ownBlock ∨ v'.ownBlock = some w.heap.size) → wpList P ops Q rest (a.put o.dst v') w') : wpList P ops Q (o :: rest) a w := by
  obtain ⟨i, hi, hz0, hz1, hz2⟩ := info_parts hinfo
  subst hm
  refine wpList_append_own_at w hgd s x t ho base e i z k bytes ht hi hz0 hz1 hz2 hzs hsz v R.length R.flatten hs hown.own ad N.length c N.flatten hx (flatten_len hN) hnews h1 ?_ ?_ hbase ?_
  · have := Nat.le_trans (Nat.le_mul_of_pos_right (R.length + N.length) hby) h63
    unfold maxLen; omega
  · exact h63
  · intro v' w' h2 h3 _ h5
    refine h v' w' ⟨?_, ?_⟩ h3 h5
    · rw [List.length_append, List.flatten_append]; exact h2
    · intro r hr
      rcases List.mem_append.1 hr with hr | hr
      · exact hown.rows r hr
      · exact hN r hr
end Go.Proofs.Ytffgoekdjcempab

/- Several slices of ints of the call's own that lie apart from each other. For every program. -/
namespace Go.Proofs.Ytffgoekdjcempab
open Go.ChangeShapes Go.WideShapes Go.ChangeAt Go.RowKit

structure Many (w : World) (b : Nat) (e : TypeId) (l : List (Value × List Int)) : Prop where
  own : ∀ p ∈ l, Own w b e 1 p.1 (p.2.map iC)
  apart : l.Pairwise (fun p q => Apart p.1 q.1)
theorem Many.at {w : World} {b : Nat} {e : TypeId} {l : List (Value × List Int)} (h : Many w b e l) {v : Value} {L : List Int} (hm : (v, L) ∈ l) : Own w b e 1 v (L.map iC) := h.own _ hm
theorem Many.alloc {w : World} {b : Nat} {e : TypeId} {l : List (Value × List Int)} (h : Many w b e l) (o : Obj) : Many (w.alloc o) b e l := ⟨fun p hp => (h.own p hp).alloc o, h.apart⟩
theorem Many.drew {w : World} {b : Nat} {e : TypeId} {l : List (Value × List Int)} (h : Many w b e l) : Many w.drew b e l := ⟨fun p hp => (h.own p hp).drew, h.apart⟩
theorem Many.below {w w' : World} {b : Nat} {e : TypeId} {l : List (Value × List Int)} (h : Many w b e l) (hb : Below w.heap.size w w') : Many w' b e l := ⟨fun p hp => (h.own p hp).below hb, h.apart⟩
theorem Many.under {w w' : World} {b : Nat} {e : TypeId} {l : List (Value × List Int)} (h : Many w b e l) {row : Option Nat} (hg : w.grownBy w' row) (hr : ∀ p ∈ l, p.1.ownBlock = none ∨ p.1.ownBlock ≠ row) : Many w' b e l := ⟨fun p hp => (h.own p hp).keptBy hg (hr p hp), h.apart⟩
theorem Many.base {w : World} {b b' : Nat} {e : TypeId} {l : List (Value × List Int)} (h : Many w b e l) (hb : b' ≤ b) : Many w b' e l := ⟨fun p hp => (h.own p hp).base_le hb, h.apart⟩
theorem apart_mid {A B : List (Value × List Int)} {p : Value × List Int} (h : (A ++ p :: B).Pairwise (fun p q => Apart p.1 q.1)) : (∀ q ∈ A, Apart p.1 q.1) ∧ (∀ q ∈ B, Apart p.1 q.1) ∧ (A ++ B).Pairwise (fun p q => Apart p.1 q.1) := by
  rw [List.pairwise_append, List.pairwise_cons] at h
  obtain ⟨h1, ⟨h2, h3⟩, h4⟩ := h
  refine ⟨fun q hq => (h4 q hq p (by simp)).symm, h2, ?_⟩
  rw [List.pairwise_append]
  exact ⟨h1, h3, fun a ha b hb => h4 a ha b (List.mem_cons_of_mem _ hb)⟩
theorem apart_put {A B : List (Value × List Int)} {p : Value × List Int} (h1 : ∀ q ∈ A, Apart p.1 q.1) (h2 : ∀ q ∈ B, Apart p.1 q.1) (h3 : (A ++ B).Pairwise (fun p q => Apart p.1 q.1)) : (A ++ p :: B).Pairwise (fun p q => Apart p.1 q.1) := by
  rw [List.pairwise_append] at h3
  rw [List.pairwise_append, List.pairwise_cons]
  refine ⟨h3.1, ⟨h2, h3.2.1⟩, fun a ha b hb => ?_⟩
  rcases List.mem_cons.1 hb with rfl | hb
  · exact (h1 a ha).symm
  · exact h3.2.2 a ha b hb
theorem mem_parts {A B : List (Value × List Int)} {p q : Value × List Int} (h : q ∈ A ++ p :: B) : q = p ∨ q ∈ A ∨ q ∈ B := by
  rcases List.mem_append.1 h with h | h
  · exact Or.inr (Or.inl h)
  · rcases List.mem_cons.1 h with h | h
    · exact Or.inl h
    · exact Or.inr (Or.inr h)
/-- a store into one of them -/
theorem Many.set {w : World} {b : Nat} {e : TypeId} {A B : List (Value × List Int)} {g n cap : Nat} {L : List Int} (h : Many w b e (A ++ (.slice (some ⟨g, 0, none⟩) n cap, L) :: B)) {i : Nat} {y : Int} (hy : L[i]? = some y) (z : Int) :
    Many (w.setCell ⟨g, i, none⟩ (.int .i64 z)) b e (A ++ (.slice (some ⟨g, 0, none⟩) n cap, L.set i z) :: B) := by
  obtain ⟨a1, a2, a3⟩ := apart_mid h.apart
  refine ⟨fun p hp => ?_, apart_put a1 a2 a3⟩
  rcases mem_parts hp with rfl | hp | hp
  · have := (h.own (.slice (some ⟨g, 0, none⟩) n cap, L) (by simp)).set1 (map_get hy) (.int .i64 z)
    rw [← show iC z = [Value.int .i64 z] from rfl, ← List.map_set] at this
    exact this
  · exact (h.own p (List.mem_append_left _ hp)).beside (a1 p hp) rfl _
  · exact (h.own p (List.mem_append_right _ (List.mem_cons_of_mem _ hp))).beside (a2 p hp) rfl _
/-- behind an append to one of them -/
theorem Many.grow {w w' : World} {b : Nat} {e : TypeId} {A B : List (Value × List Int)} {v v' : Value} {L L' : List Int} (h : Many w b e (A ++ (v, L) :: B)) (hO : Own w' b e 1 v' (L'.map iC)) (hg : w.grownBy w' v.ownBlock) (hv : v'.ownBlock = v.ownBlock ∨ v'.ownBlock = some w.heap.size) :
    Many w' b e (A ++ (v', L') :: B) := by
  obtain ⟨a1, a2, a3⟩ := apart_mid h.apart
  have o1 : ∀ q ∈ A, Own w b e 1 q.1 (q.2.map iC) := fun q hq => h.own q (List.mem_append_left _ hq)
  have o2 : ∀ q ∈ B, Own w b e 1 q.1 (q.2.map iC) := fun q hq => h.own q (List.mem_append_right _ (List.mem_cons_of_mem _ hq))
  refine ⟨fun p hp => ?_, apart_put (fun q hq => (a1 q hq).append (o1 q hq) (Nat.le_refl _) hv) (fun q hq => (a2 q hq).append (o2 q hq) (Nat.le_refl _) hv) a3⟩
  rcases mem_parts hp with rfl | hp | hp
  · exact hO
  · exact (o1 p hp).keptBy hg (a1 p hp).symm.or
  · exact (o2 p hp).keptBy hg (a2 p hp).symm.or
/-- one of them is cut short -/
theorem Own.pop {w : World} {b : Nat} {e : TypeId} {a : Option Addr} {n cap m : Nat} {L : List Int} (h : Own w b e 1 (.slice a n cap) (L.map iC)) (hm : m ≤ n) : Own w b e 1 (.slice a m cap) ((L.take m).map iC) := by
  obtain ⟨⟨hl, hv⟩, hR⟩ := h
  have f1 : ∀ X : List Int, (X.map iC).flatten.length = X.length := fun X => by rw [flat_ints, List.length_map]
  rcases hv with ⟨h0, hn⟩ | ⟨g, cap', cur, h0, hg, hcur, hle, hmx, hsz, htk⟩
  · simp only [Value.slice.injEq] at h0
    obtain ⟨rfl, rfl, rfl⟩ := h0
    obtain rfl : m = 0 := by omega
    exact Own.nil _ _ _ _
  · simp only [Value.slice.injEq] at h0
    obtain ⟨rfl, h0, rfl⟩ := h0
    rw [List.length_map] at h0 hle htk
    have hlen : (L.take m).length = m := by rw [List.length_take]; omega
    refine ⟨⟨?_, Or.inr ⟨g, cap, cur, ?_, hg, hcur, ?_, hmx, hsz, ?_⟩⟩, rows_of iC_len _⟩
    · rw [f1, List.length_map]; omega
    · rw [List.length_map, hlen]
    · rw [List.length_map, hlen]; omega
    · rw [List.length_map, hlen, flat_ints, List.map_take, ← flat_ints, ← htk, List.take_take]
      congr 1; omega
theorem Many.pop {w : World} {b : Nat} {e : TypeId} {A B : List (Value × List Int)} {a : Option Addr} {n cap m : Nat} {L : List Int} (h : Many w b e (A ++ (.slice a n cap, L) :: B)) (hm : m ≤ n) : Many w b e (A ++ (.slice a m cap, L.take m) :: B) := by
  obtain ⟨a1, a2, a3⟩ := apart_mid h.apart
  have eb : (Value.slice a m cap).ownBlock = (Value.slice a n cap).ownBlock := by cases a <;> rfl
  refine ⟨fun p hp => ?_, apart_put (fun q hq g h1 h2 => a1 q hq g (eb ▸ h1) h2) (fun q hq g h1 h2 => a2 q hq g (eb ▸ h1) h2) a3⟩
  rcases mem_parts hp with rfl | hp | hp
  · exact (h.own (.slice a n cap, L) (by simp)).pop hm
  · exact h.own p (List.mem_append_left _ hp)
  · exact h.own p (List.mem_append_right _ (List.mem_cons_of_mem _ hp))
/-- one more, newly made -/
theorem Many.push {w w' : World} {b : Nat} {e : TypeId} {l : List (Value × List Int)} {v : Value} {L : List Int} (h : Many w b e l) (hg : w.grownBy w' none) (hO : Own w' b e 1 v (L.map iC)) (hv : v.ownBlock = none ∨ v.ownBlock = some w.heap.size) : Many w' b e ((v, L) :: l) := by
  refine ⟨fun p hp => ?_, List.pairwise_cons.2 ⟨fun q hq g h1 h2 => ?_, h.apart⟩⟩
  · rcases List.mem_cons.1 hp with rfl | hp
    · exact hO
    · refine (h.own p hp).keptBy hg ?_
      cases hx : p.1.ownBlock with
      | none => exact Or.inl rfl
      | some _ => exact Or.inr (by simp)
  · rcases hv with hv | hv
    · rw [hv] at h1; cases h1
    · rw [hv] at h1
      have := ((h.own q hq).own.lt g h2).2
      simp at h1
      omega
theorem Many.nil (w : World) (b : Nat) (e : TypeId) : Many w b e [] := ⟨fun p hp => by simp at hp, List.Pairwise.nil⟩
end Go.Proofs.Ytffgoekdjcempab

/- Slices of slices of ints: what came in or was made, and such that a call makes itself and writes. -/
namespace Go.Proofs.Ytffgoekdjcempab
open Go.ChangeShapes Go.WideShapes Go.ChangeAt Go.RowKit
namespace Tbl

/-- a slice of slices of ints in the heap, its rows R; each block of it meets P -/
def TTx (w : World) (P : Nat → Prop) (a : Option Addr) (len cap : Nat) (R : List (List Int)) : Prop :=
  ∃ S : List (Sl Int), S.map (fun s => s.l) = R ∧ Tab w a len cap 1 (S.map slC) ∧ (∀ s ∈ S, Tab w s.a s.len s.cap 1 (s.l.map iC)) ∧ (0 < len → ∀ ad, a = some ad → P ad.block) ∧ (∀ s ∈ S, 0 < s.len → ∀ ad, s.a = some ad → P ad.block)
def anyB (_ : Nat) : Prop := True
theorem TTx.below {w w' : World} {P : Nat → Prop} {a : Option Addr} {len cap : Nat} {R : List (List Int)} (h : TTx w P a len cap R) (hb : Below w.heap.size w w') : TTx w' P a len cap R := by
  obtain ⟨S, h1, h2, h3, h4, h5⟩ := h
  exact ⟨S, h1, h2.below hb, fun s hs => (h3 s hs).below hb, h4, h5⟩
theorem TTx.weak {w : World} {P Q : Nat → Prop} {a : Option Addr} {len cap : Nat} {R : List (List Int)} (h : TTx w P a len cap R) (hPQ : ∀ b, P b → Q b) : TTx w Q a len cap R := by
  obtain ⟨S, h1, h2, h3, h4, h5⟩ := h
  exact ⟨S, h1, h2, h3, fun hl ad ha => hPQ _ (h4 hl ad ha), fun s hs hl ad ha => hPQ _ (h5 s hs hl ad ha)⟩
theorem TTx.any {w : World} {P : Nat → Prop} {a : Option Addr} {len cap : Nat} {R : List (List Int)} (h : TTx w P a len cap R) : TTx w anyB a len cap R := h.weak (fun _ _ => trivial)
/-- each block lies in the heap -/
theorem TTx.size {w : World} {P : Nat → Prop} {a : Option Addr} {len cap : Nat} {R : List (List Int)} (h : TTx w P a len cap R) : TTx w (fun b => P b ∧ b < w.heap.size) a len cap R := by
  obtain ⟨S, h1, h2, h3, h4, h5⟩ := h
  refine ⟨S, h1, h2, h3, fun hl ad ha => ⟨h4 hl ad ha, ?_⟩, fun s hs hl ad ha => ⟨h5 s hs hl ad ha, ?_⟩⟩
  · obtain ⟨b, off, ha', hlt, _⟩ := h2.hspot hl
    rw [ha'] at ha
    simp only [Option.some.injEq] at ha
    subst ha
    exact hlt
  · obtain ⟨b, off, ha', hlt, _⟩ := (h3 s hs).hspot hl
    rw [ha'] at ha
    simp only [Option.some.injEq] at ha
    subst ha
    exact hlt
theorem tab_off {w : World} {a : Option Addr} {n c : Nat} {R : List (List Value)} (h : Tab w a n c 1 R) (Y : Nat) (hY : 0 < n → ∀ ad, a = some ad → ad.block ≠ Y) (i : Nat) (v : Value) : Tab (w.setCell ⟨Y, i, none⟩ v) a n c 1 R := by
  refine ⟨h.hlen, h.hle, h.hmax, h.hnil, fun hl => ?_⟩
  obtain ⟨b, off, ha, hlt, hc⟩ := h.hspot hl
  have hne := hY hl _ ha
  refine ⟨b, off, ha, by simpa using hlt, fun i r hr j u hu => ?_⟩
  rw [World.cell?_of_block (Below.heap_setCell _ _ _ _ hne)]
  exact hc i r hr j u hu
/-- a store elsewhere -/
theorem TTx.set {w : World} {P : Nat → Prop} {a : Option Addr} {len cap : Nat} {R : List (List Int)} (h : TTx w P a len cap R) {Y : Nat} (hY : ∀ b, P b → b ≠ Y) (i : Nat) (v : Value) : TTx (w.setCell ⟨Y, i, none⟩ v) P a len cap R := by
  obtain ⟨S, h1, h2, h3, h4, h5⟩ := h
  exact ⟨S, h1, tab_off h2 Y (fun hl ad ha => hY _ (h4 hl ad ha)) i v, fun s hs => tab_off (h3 s hs) Y (fun hl ad ha => hY _ (h5 s hs hl ad ha)) i v, h4, h5⟩
theorem TTx.len {w : World} {P : Nat → Prop} {a : Option Addr} {len cap : Nat} {R : List (List Int)} (h : TTx w P a len cap R) : R.length = len := by
  obtain ⟨S, h1, h2, _⟩ := h
  have := h2.hlen
  rw [List.length_map] at this
  rw [← h1, List.length_map, this]
theorem TTx.max {w : World} {P : Nat → Prop} {a : Option Addr} {len cap : Nat} {R : List (List Int)} (h : TTx w P a len cap R) : len ≤ cap ∧ cap ≤ 9223372036854775807 := by
  obtain ⟨S, h1, h2, _⟩ := h
  have h3 := h2.hmax
  unfold maxLen at h3
  exact ⟨h2.hle, h3⟩
/-- row number i, in a later world -/
theorem TTx.row {w w' : World} {P : Nat → Prop} {a : Option Addr} {len cap : Nat} {R : List (List Int)} (h : TTx w P a len cap R) (hb : Below w.heap.size w w') {i : Nat} {r : List Int} (hr : R[i]? = some r) :
    ∃ (b off : Nat) (q : Option Addr) (n c : Nat), a = some ⟨b, off, none⟩ ∧ b < w.heap.size ∧ w'.cell? ⟨b, off + i, none⟩ = some (.slice q n c) ∧ Tab w' q n c 1 (r.map iC) ∧ r.length = n ∧ n ≤ c ∧ c ≤ 9223372036854775807 := by
  obtain ⟨S, h1, h2, h3, _⟩ := h
  rw [← h1, List.getElem?_map] at hr
  cases hs : S[i]? with
  | none => rw [hs] at hr; cases hr
  | some s =>
    rw [hs, Option.map_some, Option.some.injEq] at hr
    subst hr
    obtain ⟨b, off, ha, hlt, hc⟩ := h2.one hb (map_get hs)
    have hT := h3 s (List.mem_of_getElem? hs)
    have hl := hT.hlen
    rw [List.length_map] at hl
    have hm := hT.hmax
    unfold maxLen at hm
    exact ⟨b, off, s.a, s.len, s.cap, ha, hlt, hc, hT.below hb, hl, hT.hle, hm⟩
theorem TTx.nil (w : World) (P : Nat → Prop) : TTx w P none 0 0 [] := ⟨[], rfl, ⟨rfl, Nat.le_refl _, Nat.zero_le _, fun _ => rfl, fun h => absurd h (Nat.lt_irrefl 0)⟩, fun s hs => (List.not_mem_nil hs).elim, fun h => absurd h (Nat.lt_irrefl 0), fun s hs => (List.not_mem_nil hs).elim⟩
theorem TTx.of {w : World} {a : Option Addr} {len cap : Nat} {L : List (Sl Int)} (h : Tab w a len cap 1 (L.map slC)) (h2 : ∀ s ∈ L, Tab w s.a s.len s.cap 1 (s.l.map iC)) : TTx w anyB a len cap (L.map (fun s => s.l)) := ⟨L, rfl, h, h2, fun _ _ _ => trivial, fun _ _ _ _ _ => trivial⟩

/-! ### slices of slices that a call makes itself and writes -/
structure Grid (w : World) (base : Nat) (v : Value) (l : List (Value × List Int)) : Prop where
  out : Own w base 53 1 v (l.map (fun p => [p.1]))
  inn : Many w base 3 l
  off : ∀ p ∈ l, Apart v p.1
theorem Grid.alloc {w : World} {base : Nat} {v : Value} {l : List (Value × List Int)} (h : Grid w base v l) (o : Obj) : Grid (w.alloc o) base v l := ⟨h.out.alloc o, h.inn.alloc o, h.off⟩
theorem Grid.below {w w' : World} {base : Nat} {v : Value} {l : List (Value × List Int)} (h : Grid w base v l) (hb : Below w.heap.size w w') : Grid w' base v l := ⟨h.out.below hb, h.inn.below hb, h.off⟩
theorem Grid.base_le {w : World} {base B : Nat} {v : Value} {l : List (Value × List Int)} (h : Grid w base v l) (hB : B ≤ base) : Grid w B v l := ⟨h.out.base_le hB, h.inn.base hB, h.off⟩
theorem own_val {w : World} {base : Nat} {e : TypeId} {v : Value} {L : List Int} (h : Own w base e 1 v (L.map iC)) : ∃ a c, v = .slice a L.length c ∧ Tab w a L.length c 1 (L.map iC) ∧ ∀ ad, a = some ad → base ≤ ad.block := by
  rcases h.own.2 with ⟨h0, h1⟩ | ⟨g, cap, cur, h0, hg, _⟩
  · rw [List.length_map] at h1
    refine ⟨none, 0, by rw [h1]; exact h0, ?_, fun ad ha => by cases ha⟩
    subst h0
    rw [h1]
    exact h.tab_of
  · rw [List.length_map] at h0
    refine ⟨some ⟨g, 0, none⟩, cap, h0, ?_, fun ad ha => ?_⟩
    · subst h0
      exact h.tab_of
    · rw [Option.some.injEq] at ha
      subst ha
      exact hg
/-- such a one is read as any other -/
theorem Grid.tt {w : World} {base : Nat} {v : Value} {l : List (Value × List Int)} (h : Grid w base v l) : ∃ a c, v = .slice a l.length c ∧ TTx w (fun b => base ≤ b) a l.length c (l.map (fun p => p.2)) := by
  have h1 : ∃ S : List (Sl Int), S.length = l.length ∧ ∀ (i : Nat) (p : Value × List Int) (s : Sl Int), l[i]? = some p → S[i]? = some s → p.1 = .slice s.a s.len s.cap ∧ s.l = p.2 ∧ Tab w s.a s.len s.cap 1 (s.l.map iC) ∧ ∀ ad, s.a = some ad → base ≤ ad.block := by
    obtain ⟨S, hS, hq⟩ := list_of (α := Sl Int) l.length (fun i s => ∀ p, l[i]? = some p → p.1 = .slice s.a s.len s.cap ∧ s.l = p.2 ∧ Tab w s.a s.len s.cap 1 (s.l.map iC) ∧ ∀ ad, s.a = some ad → base ≤ ad.block) (fun i hi => by
      obtain ⟨a, c, e, hT, hB⟩ := own_val (h.inn.own _ (List.getElem_mem hi))
      refine ⟨⟨a, (l[i]'hi).2.length, c, (l[i]'hi).2⟩, fun p hp => ?_⟩
      rw [List.getElem?_eq_getElem hi, Option.some.injEq] at hp
      subst hp
      exact ⟨e, rfl, hT, hB⟩)
    exact ⟨S, hS, fun i p s hp hs => hq i s hs p hp⟩
  obtain ⟨S, hSl, hS⟩ := h1
  have hrows : S.map slC = l.map (fun p => [p.1]) := by
    apply List.ext_getElem?
    intro i
    rw [List.getElem?_map, List.getElem?_map]
    by_cases hi : i < l.length
    · rw [List.getElem?_eq_getElem hi, List.getElem?_eq_getElem (by omega), Option.map_some, Option.map_some, (hS i _ _ (List.getElem?_eq_getElem hi) (List.getElem?_eq_getElem (by omega))).1]
      rfl
    · rw [List.getElem?_eq_none (by omega), List.getElem?_eq_none (by omega)]; rfl
  have hls : S.map (fun s => s.l) = l.map (fun p => p.2) := by
    apply List.ext_getElem?
    intro i
    rw [List.getElem?_map, List.getElem?_map]
    by_cases hi : i < l.length
    · rw [List.getElem?_eq_getElem hi, List.getElem?_eq_getElem (by omega), Option.map_some, Option.map_some, (hS i _ _ (List.getElem?_eq_getElem hi) (List.getElem?_eq_getElem (by omega))).2.1]
    · rw [List.getElem?_eq_none (by omega), List.getElem?_eq_none (by omega)]; rfl
  have hin : ∀ s ∈ S, Tab w s.a s.len s.cap 1 (s.l.map iC) ∧ ∀ ad, s.a = some ad → base ≤ ad.block := fun s hs => by
    obtain ⟨i, hi⟩ := List.getElem?_of_mem hs
    have hil := (List.getElem?_eq_some_iff.1 hi).1
    have := hS i _ s (List.getElem?_eq_getElem (by omega)) hi
    exact ⟨this.2.2.1, this.2.2.2⟩
  have hO := h.out
  rw [← hrows] at hO
  rcases hO.own.2 with ⟨h0, hn⟩ | ⟨g, cap, cur, h0, hg, hc, _⟩
  · rw [List.length_map] at hn
    have hl0 : l.length = 0 := by omega
    refine ⟨none, 0, by rw [hl0]; exact h0, ?_⟩
    subst h0
    rw [hl0]
    exact ⟨S, hls, hO.tab_of, fun s hs => (hin s hs).1, fun hl => absurd hl (Nat.lt_irrefl 0), fun s hs _ ad ha => (hin s hs).2 ad ha⟩
  · rw [List.length_map, hSl] at h0
    refine ⟨some ⟨g, 0, none⟩, cap, h0, ?_⟩
    subst h0
    refine ⟨S, hls, hO.tab_of, fun s hs => (hin s hs).1, fun _ ad ha => ?_, fun s hs _ ad ha => (hin s hs).2 ad ha⟩
    rw [Option.some.injEq] at ha
    subst ha
    exact hg
/-- a store into a block that is none of its own -/
theorem own_else {w : World} {base : Nat} {e : TypeId} {k : Nat} {v : Value} {R : List (List Value)} (h : Own w base e k v R) {a : Addr} (ha : v.ownBlock ≠ some a.block) (x : Value) : Own (w.setCell a x) base e k v R := by
  refine h.keptBy (grown_cell w a x) ?_
  exact Or.inr ha
theorem Grid.setCell {w : World} {base : Nat} {v : Value} {l : List (Value × List Int)} (h : Grid w base v l) {a : Addr} (ha : a.block < base) (x : Value) : Grid (w.setCell a x) base v l := by
  have hne : ∀ {e : TypeId} {k : Nat} {u : Value} {R : List (List Value)}, Own w base e k u R → u.ownBlock ≠ some a.block := fun hu hx => by
    have := (hu.own.lt _ hx).1
    omega
  exact ⟨own_else h.out (hne h.out) x, ⟨fun p hp => own_else (h.inn.own p hp) (hne (h.inn.own p hp)) x, h.inn.apart⟩, h.off⟩
/-- a store into one of the rows -/
theorem Grid.set {w : World} {base : Nat} {v : Value} {A B : List (Value × List Int)} {g n c : Nat} {L : List Int} (h : Grid w base v (A ++ (.slice (some ⟨g, 0, none⟩) n c, L) :: B)) {i : Nat} {y : Int} (hy : L[i]? = some y) (z : Int) :
    Grid (w.setCell ⟨g, i, none⟩ (.int .i64 z)) base v (A ++ (.slice (some ⟨g, 0, none⟩) n c, L.set i z) :: B) := by
  refine ⟨?_, h.inn.set hy z, fun p hp => ?_⟩
  · have h1 := h.off (.slice (some ⟨g, 0, none⟩) n c, L) (by simp)
    have h2 := own_else h.out (a := ⟨g, i, none⟩) (fun hx => h1 g hx rfl) (.int .i64 z)
    have e : (A ++ (Value.slice (some ⟨g, 0, none⟩) n c, L.set i z) :: B).map (fun p => [p.1]) = (A ++ (Value.slice (some ⟨g, 0, none⟩) n c, L) :: B).map (fun p => [p.1]) := by simp
    rw [e]
    exact h2
  · rcases mem_parts hp with rfl | hp | hp
    · exact h.off (.slice (some ⟨g, 0, none⟩) n c, L) (by simp)
    · exact h.off p (List.mem_append_left _ hp)
    · exact h.off p (List.mem_append_right _ (List.mem_cons_of_mem _ hp))
/-- what the walk reads of row i -/
theorem Grid.at_ {w : World} {base g0 n0 c0 : Nat} {l : List (Value × List Int)} (h : Grid w base (.slice (some ⟨g0, 0, none⟩) n0 c0) l) {i : Nat} {p : Value × List Int} (hp : l[i]? = some p) :
    w.cell? ⟨g0, i, none⟩ = some p.1 ∧ w.frozen? ⟨g0, i, none⟩ = false ∧ base ≤ g0 ∧ g0 < w.heap.size := h.out.at1 (map_get hp)
theorem Grid.row {w : World} {base : Nat} {v : Value} {l : List (Value × List Int)} (h : Grid w base v l) {i : Nat} {p : Value × List Int} (hp : l[i]? = some p) (hl : 0 < p.2.length) : ∃ g c, p.1 = .slice (some ⟨g, 0, none⟩) p.2.length c ∧ base ≤ g ∧ g < w.heap.size ∧ Own w base 3 1 (.slice (some ⟨g, 0, none⟩) p.2.length c) (p.2.map iC) := by
  have hO := h.inn.own p (List.mem_of_getElem? hp)
  rcases hO.own.2 with ⟨_, h0'⟩ | ⟨g', cap', cur, h0, hg, hc, _⟩
  · rw [List.length_map] at h0'; omega
  · rw [List.length_map] at h0
    rw [h0] at hO
    exact ⟨g', cap', h0, hg, (Array.getElem?_eq_some_iff.1 hc).1, hO⟩
/-- a new row in place of an empty one -/
theorem Grid.put {w w1 : World} {base g0 n0 c0 : Nat} {A B : List (Value × List Int)} {u : Value} {L : List Int} (h : Grid w base (.slice (some ⟨g0, 0, none⟩) n0 c0) (A ++ (.slice none 0 0, []) :: B)) (hO : Own w1 w.heap.size 3 1 u (L.map iC)) (hb : Below w.heap.size w w1) :
    Grid (w1.setCell ⟨g0, A.length, none⟩ u) base (.slice (some ⟨g0, 0, none⟩) n0 c0) (A ++ (u, L) :: B) := by
  have hg0 : base ≤ g0 ∧ g0 < w.heap.size := by
    have h0 : (A ++ (Value.slice none 0 0, ([] : List Int)) :: B)[A.length]? = some (.slice none 0 0, []) := by rw [List.getElem?_append_right (Nat.le_refl _)]; simp
    have := h.at_ h0
    exact this.2.2
  have hbw : base ≤ w.heap.size := by omega
  have hu : ∀ b, u.ownBlock = some b → w.heap.size ≤ b := fun b hb' => (hO.own.lt b hb').1
  have hug : u.ownBlock ≠ some g0 := fun hx => by have := hu g0 hx; omega
  have h1 := h.below hb
  obtain ⟨a1, a2, a3⟩ := apart_mid h1.inn.apart
  have o1 : ∀ q ∈ A, Own w base 3 1 q.1 (q.2.map iC) := fun q hq => h.inn.own q (List.mem_append_left _ hq)
  have o2 : ∀ q ∈ B, Own w base 3 1 q.1 (q.2.map iC) := fun q hq => h.inn.own q (List.mem_append_right _ (List.mem_cons_of_mem _ hq))
  have ap : ∀ q : Value × List Int, Own w base 3 1 q.1 (q.2.map iC) → Apart u q.1 := fun q hq b h2 h3 => by
    have k1 := hu b h2
    have k2 := (hq.own.lt b h3).2
    omega
  have f0 : ∀ q : Value × List Int, Apart (.slice (some ⟨g0, 0, none⟩) n0 c0) q.1 → q.1.ownBlock ≠ some g0 := fun q hq hx => hq g0 rfl hx
  refine ⟨?_, ⟨fun p hp => ?_, apart_put (fun q hq => ap q (o1 q hq)) (fun q hq => ap q (o2 q hq)) a3⟩, fun p hp => ?_⟩
  · have hr : ((A ++ (Value.slice none 0 0, ([] : List Int)) :: B).map (fun p => [p.1]))[A.length]? = some [Value.slice none 0 0] := by
      rw [List.getElem?_map, List.getElem?_append_right (Nat.le_refl _)]; simp
    have h2 := h1.out.set1 hr u
    have e : ((A ++ (Value.slice none 0 0, ([] : List Int)) :: B).map (fun p => [p.1])).set A.length [u] = (A ++ (u, L) :: B).map (fun p => [p.1]) := by
      rw [List.map_append, List.map_append, List.set_append_right _ _ (by simp)]
      simp
    rw [e] at h2
    exact h2
  · rcases mem_parts hp with rfl | hp | hp
    · exact own_else (hO.base_le hbw) (a := ⟨g0, A.length, none⟩) hug u
    · exact own_else (h1.inn.own p (List.mem_append_left _ hp)) (a := ⟨g0, A.length, none⟩) (f0 p (h.off p (List.mem_append_left _ hp))) u
    · exact own_else (h1.inn.own p (List.mem_append_right _ (List.mem_cons_of_mem _ hp))) (a := ⟨g0, A.length, none⟩) (f0 p (h.off p (List.mem_append_right _ (List.mem_cons_of_mem _ hp)))) u
  · rcases mem_parts hp with rfl | hp | hp
    · intro b h2 h3
      have : b = g0 := by simpa [Value.ownBlock] using h2.symm
      subst this
      exact hug h3
    · exact h.off p (List.mem_append_left _ hp)
    · exact h.off p (List.mem_append_right _ (List.mem_cons_of_mem _ hp))
theorem flat_nils (n : Nat) : ((List.replicate n ((Value.slice none 0 0), ([] : List Int))).map (fun p => [p.1])).flatten = List.replicate n (Value.slice none 0 0) := by
  induction n with
  | zero => rfl
  | succ n ih => rw [List.replicate_succ, List.map_cons, List.flatten_cons, ih, List.replicate_succ]; rfl
theorem made_nils (n : Nat) : ((List.replicate n ((Value.slice none 0 0), ([] : List Int))).map (fun p => [p.1])).length = n ∧ ((List.replicate n ((Value.slice none 0 0), ([] : List Int))).map (fun p => [p.1])).flatten = (madeCells (Value.slice none 0 0).cells (n * 1)).toList ∧ ∀ r ∈ (List.replicate n ((Value.slice none 0 0), ([] : List Int))).map (fun p => [p.1]), r.length = 1 := by
  refine ⟨by simp, ?_, ?_⟩
  · rw [flat_nils, Nat.mul_one]
    apply List.ext_getElem?
    intro i
    simp [madeCells, Value.cells, List.getElem?_replicate]
    by_cases h : i < n
    · rw [if_pos h, List.getElem?_eq_getElem (by simpa using h)]
      simp [Nat.mod_one]
    · rw [if_neg h, List.getElem?_eq_none (by simpa using h)]
      rfl
  · intro r hr
    obtain ⟨x, _, rfl⟩ := List.mem_map.1 hr
    rfl
theorem Grid.made {w : World} {base : Nat} {v : Value} {n : Nat} (h : w.ownsRow base 53 1 v n (madeCells (Value.slice none 0 0).cells (n * 1)).toList) : Grid w base v (List.replicate n ((Value.slice none 0 0), ([] : List Int))) := by
  refine ⟨Own.full h (made_nils n), ⟨fun p hp => ?_, ?_⟩, fun p hp => ?_⟩
  · rw [List.eq_of_mem_replicate hp]; exact Own.nil _ _ _ _
  · rw [List.pairwise_replicate]
    right
    exact apart_nil _
  · rw [List.eq_of_mem_replicate hp]; exact (apart_nil _).symm
/-- a slice of slices of the call's own, read as the list R of rows: no two of its blocks are the same -/
def GT (w : World) (base : Nat) (a : Option Addr) (len cap : Nat) (R : List (List Int)) : Prop := ∃ l, Grid w base (.slice a len cap) l ∧ l.map (fun p => p.2) = R
theorem GT.tt {w : World} {base : Nat} {a : Option Addr} {len cap : Nat} {R : List (List Int)} (h : GT w base a len cap R) : TTx w (fun b => base ≤ b) a len cap R := by
  obtain ⟨l, h1, h2⟩ := h
  obtain ⟨a', c', hav, htt⟩ := h1.tt
  simp only [Value.slice.injEq] at hav
  obtain ⟨rfl, h3, rfl⟩ := hav
  rw [← h3, h2] at htt
  exact htt
theorem GT.below {w w' : World} {base : Nat} {a : Option Addr} {len cap : Nat} {R : List (List Int)} (h : GT w base a len cap R) (hb : Below w.heap.size w w') : GT w' base a len cap R := by
  obtain ⟨l, h1, h2⟩ := h
  exact ⟨l, h1.below hb, h2⟩
theorem GT.nilG (w : World) (B : Nat) : Grid w B (.slice none 0 0) [] := ⟨Own.nil _ _ _ _, Many.nil _ _ _, fun p hp => by cases hp⟩
end Tbl
end Go.Proofs.Ytffgoekdjcempab
