/- append inside a region that draws its order, in terms of rows. For every program; no Go text in sight. -/
import Derived.Test.YtffgoekdjcempaaGreatOwnMore
import Derived.Deep.AppendLies
import Derived.Deep.RegionLaw
namespace Go.Proofs.YtffgoekdjcempaaGreat
open Go.ChangeShapes Go.WideShapes Go.ChangeAt Go.RowKit

theorem step_append_rows {P : Program} (w : World) {ops : Array Oper} {o : Oper} {a : Act} {K : Act → World → Prop} {Q : Exit → Act → World → Prop} {E : Prop} (hgd : o.guard = none) (s x : Operand) (t : TypeId)
    (ho : o.op = .call { callee := .builtin .append, args := #[s, x], argTypes := #[t, t] })
    (base : Nat) (e : TypeId) (z : Value) (k bytes : Nat) (ht : P.underlying t = some (.slice e)) (hinfo : (P.info? e).map (fun i => (i.zero, i.size, i.bytes)) = some (some z, k, bytes)) (hzs : z.cells.size = k) (hsz : 0 < k)
    (v : Value) (R : List (List Value)) (hs : a.eval s = v) (hown : Own w base e k v R)
    (ad : Addr) (m c : Nat) (N : List (List Value)) (hm0 : 0 < m) (hm : N.length = m) (hx : a.eval x = .slice (some ad) m c) (hN : ∀ r ∈ N, r.length = k) (hnews : ∀ j u, N.flatten[j]? = some u → w.cell? (ad.add j) = some u) (h1 : ∀ u ∈ N.flatten, u.oneCell' = true)
    (h63 : (R.length + m) * bytes ≤ 140737488355328) (hby : 0 < bytes) (hbase : base ≤ w.heap.size)
    (h : ∀ g cap w', Own w' base e k (.slice (some ⟨g, 0, none⟩) (R.length + m) cap) (R ++ N) → w.grownBy w' v.ownBlock → K (a.put o.dst (.slice (some ⟨g, 0, none⟩) (R.length + m) cap)) w') :
    if Region.wanted o (yielded ops a.tmps) = true then Oper.wp P o a w K Q else E := by
  obtain ⟨i, hi, hz0, hz1, hz2⟩ := info_parts hinfo
  subst hm
  refine step_append_lies w hgd s x t ho base e i z k bytes ht hi hz0 hz1 hz2 hzs hsz v R.length R.flatten hs hown.own ad N.length c N.flatten hx (flatten_len hN) hnews h1 hm0 ?_ h63 hbase _ rfl ?_
  · have := Nat.le_trans (Nat.le_mul_of_pos_right (R.length + N.length) hby) h63
    unfold maxLen; omega
  · intro g cap w' h2 h3 _ _
    refine h g cap w' ⟨?_, ?_⟩ h3
    · rw [List.length_append, List.flatten_append]; exact h2
    · intro r hr
      rcases List.mem_append.1 hr with hr | hr
      · exact hown.rows r hr
      · exact hN r hr
/-- the same for an operation behind a guard -/
theorem step_append_rows_if {P : Program} (w : World) {ops : Array Oper} {o : Oper} {a : Act} {K : Act → World → Prop} {Q : Exit → Act → World → Prop} {E : Prop} (hgd : Region.wanted o (yielded ops a.tmps) = true) (s x : Operand) (t : TypeId)
    (ho : o.op = .call { callee := .builtin .append, args := #[s, x], argTypes := #[t, t] })
    (base : Nat) (e : TypeId) (z : Value) (k bytes : Nat) (ht : P.underlying t = some (.slice e)) (hinfo : (P.info? e).map (fun i => (i.zero, i.size, i.bytes)) = some (some z, k, bytes)) (hzs : z.cells.size = k) (hsz : 0 < k)
    (v : Value) (R : List (List Value)) (hs : a.eval s = v) (hown : Own w base e k v R)
    (ad : Addr) (m c : Nat) (N : List (List Value)) (hm0 : 0 < m) (hm : N.length = m) (hx : a.eval x = .slice (some ad) m c) (hN : ∀ r ∈ N, r.length = k) (hnews : ∀ j u, N.flatten[j]? = some u → w.cell? (ad.add j) = some u) (h1 : ∀ u ∈ N.flatten, u.oneCell' = true)
    (h63 : (R.length + m) * bytes ≤ 140737488355328) (hby : 0 < bytes) (hbase : base ≤ w.heap.size)
    (h : ∀ g cap w', Own w' base e k (.slice (some ⟨g, 0, none⟩) (R.length + m) cap) (R ++ N) → w.grownBy w' v.ownBlock → K (a.put o.dst (.slice (some ⟨g, 0, none⟩) (R.length + m) cap)) w') :
    if Region.wanted o (yielded ops a.tmps) = true then Oper.wp P o a w K Q else E := by
  obtain ⟨i, hi, hz0, hz1, hz2⟩ := info_parts hinfo
  subst hm
  rw [if_pos hgd]
  refine wp_append_lies w s x t ho base e i z k bytes ht hi hz0 hz1 hz2 hzs hsz v R.length R.flatten hs hown.own ad N.length c N.flatten hx (flatten_len hN) hnews h1 hm0 ?_ h63 hbase _ rfl ?_
  · have := Nat.le_trans (Nat.le_mul_of_pos_right (R.length + N.length) hby) h63
    unfold maxLen; omega
  · intro g cap w' h2 h3 _ _
    refine h g cap w' ⟨?_, ?_⟩ h3
    · rw [List.length_append, List.flatten_append]; exact h2
    · intro r hr
      rcases List.mem_append.1 hr with hr | hr
      · exact hown.rows r hr
      · exact hN r hr

end Go.Proofs.YtffgoekdjcempaaGreat
