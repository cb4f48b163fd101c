/- Two slices of the call's own that lie apart. For every program. -/
import Derived.Test.YtffgoekdjcempaaGreatGr3
import Derived.Maps.AppendAt
namespace Go.Proofs.YtffgoekdjcempaaGreat
open Go.RowKit

/-- two values whose own blocks, if they have any, are not one -/
def Apart (v u : Value) : Prop := ∀ g, v.ownBlock = some g → u.ownBlock ≠ some g
theorem Apart.symm {v u : Value} (h : Apart v u) : Apart u v := fun g h1 h2 => h g h2 h1
theorem Apart.or {v u : Value} (h : Apart v u) : v.ownBlock = none ∨ v.ownBlock ≠ u.ownBlock := by
  cases e : v.ownBlock with
  | none => exact Or.inl rfl
  | some g => exact Or.inr (fun h2 => h g e h2.symm)
theorem apart_nil (u : Value) : Apart (.slice none 0 0) u := fun g h => by cases h
theorem Own.keptBy {w w' : World} {base : Nat} {e : TypeId} {k : Nat} {v : Value} {R : List (List Value)} {row : Option Nat} (h : Own w base e k v R) (hg : w.grownBy w' row) (hne : v.ownBlock = none ∨ v.ownBlock ≠ row) : Own w' base e k v R := ⟨h.own.kept hg hne, h.rows⟩
theorem grown_cell (w : World) (a : Addr) (u : Value) : w.grownBy (w.setCell a u) (some a.block) :=
  ⟨rfl, rfl, rfl, by simp [World.setCell], fun k _ hne => Below.heap_setCell w a u k (fun e => hne (by rw [e]))⟩
theorem Own.beside {w : World} {base : Nat} {e : TypeId} {k : Nat} {v u : Value} {R : List (List Value)} {g i : Nat} (h : Own w base e k u R) (ha : Apart v u) (hv : v.ownBlock = some g) (x : Value) : Own (w.setCell ⟨g, i, none⟩ x) base e k u R := by
  refine h.keptBy (grown_cell w ⟨g, i, none⟩ x) ?_
  have := ha.symm.or
  rw [hv] at this
  exact this
/-- behind an append: still apart -/
theorem Apart.append {w : World} {base : Nat} {e : TypeId} {k : Nat} {v v' u : Value} {R : List (List Value)} {H : Nat} (ha : Apart v u) (hu : Own w base e k u R) (hH : w.heap.size ≤ H) (hat : v'.ownBlock = v.ownBlock ∨ v'.ownBlock = some H) : Apart v' u := by
  intro g hg hu2
  rcases hat with h | h
  · exact ha g (h.symm.trans hg) hu2
  · rw [h] at hg
    have := (hu.own.lt g hu2).2
    simp at hg
    omega
theorem wpList_append_rows_at {P : Program} (w : World) {ops : Array Oper} {rest : List Oper} {o : Oper} {a : Act} {Q : Exit → Act → World → Prop} (hgd : o.guard = none) (s x : Operand) (t : TypeId)
    (ho : o.op = .call { callee := .builtin .append, args := #[s, x], argTypes := #[t, t] })
    (base : Nat) (e : TypeId) (z : Value) (k bytes : Nat) (ht : P.underlying t = some (.slice e)) (hinfo : (P.info? e).map (fun i => (i.zero, i.size, i.bytes)) = some (some z, k, bytes)) (hzs : z.cells.size = k) (hsz : 0 < k)
    (v : Value) (R : List (List Value)) (hs : a.eval s = v) (hown : Own w base e k v R)
    (ad : Addr) (m c : Nat) (N : List (List Value)) (hm : N.length = m) (hx : a.eval x = .slice (some ad) m c) (hN : ∀ r ∈ N, r.length = k) (hnews : ∀ j u, N.flatten[j]? = some u → w.cell? (ad.add j) = some u) (h1 : ∀ u ∈ N.flatten, u.oneCell' = true)
    (h63 : (R.length + m) * bytes ≤ 140737488355328) (hby : 0 < bytes) (hbase : base ≤ w.heap.size)
    (h : ∀ v' w', Own w' base e k v' (R ++ N) → w.grownBy w' v.ownBlock → (v'.ownBlock = v.ownBlock ∨ v'.ownBlock = some w.heap.size) → wpList P ops Q rest (a.put o.dst v') w') : wpList P ops Q (o :: rest) a w := by
  obtain ⟨i, hi, hz0, hz1, hz2⟩ := info_parts hinfo
  subst hm
  refine wpList_append_own_at w hgd s x t ho base e i z k bytes ht hi hz0 hz1 hz2 hzs hsz v R.length R.flatten hs hown.own ad N.length c N.flatten hx (flatten_len hN) hnews h1 ?_ ?_ hbase ?_
  · have := Nat.le_trans (Nat.le_mul_of_pos_right (R.length + N.length) hby) h63
    unfold maxLen; omega
  · exact h63
  · intro v' w' h2 h3 _ h5
    refine h v' w' ⟨?_, ?_⟩ h3 h5
    · rw [List.length_append, List.flatten_append]; exact h2
    · intro r hr
      rcases List.mem_append.1 hr with hr | hr
      · exact hown.rows r hr
      · exact hN r hr
end Go.Proofs.YtffgoekdjcempaaGreat
