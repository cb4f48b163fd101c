/- A map of counts with whole numbers for keys, told by the list of all that has been counted: m[r]++ adds r to the list. For every program; no Go text in sight. -/
import Derived.Maps.OwnSet
import Derived.Maps.RangeWalk
import Derived.WalkKit
namespace Go.Proofs.YtffgoekdjcempaaGreat
open Go.Maps (Keyed)
open Go.RowKit

/-- how many different numbers stand in the list -/
def kinds : List Int → Nat
  | [] => 0
  | x :: l => if x ∈ l then kinds l else kinds l + 1
/-- block b is a map in which just the numbers of cs stand, each with the number of its places in cs -/
def OwnsCounts (P : Program) (k e : TypeId) (w : World) (b : Nat) (cs : List Int) : Prop :=
  ∃ D : DataW Unit, w.ownsMap P k (plainElem P e) b cs.length D ∧ Maps.size D = kinds cs ∧ (∀ z : Int, D.atKey (.int .i64 z) (.lit (.int .i64 0)) = .lit (.int .i64 (cs.count z : Nat))) ∧ ∀ z : Int, Maps.has D (.int .i64 z) = decide (z ∈ cs)

variable {P : Program} {k e : TypeId} {w : World} {b : Nat} {cs : List Int}

theorem ownsCounts_made (P : Program) (k e : TypeId) (w : World) : OwnsCounts P k e (w.alloc (.map #[] 0)) w.heap.size [] :=
  ⟨.map [], World.ownsMap_made _ _ _ _, rfl, fun _ => rfl, fun _ => rfl⟩
theorem OwnsCounts.lt (h : OwnsCounts P k e w b cs) : b < w.heap.size := by obtain ⟨D, h1, _⟩ := h; exact h1.lt
theorem OwnsCounts.kept {w' : World} {row : Option Nat} (h : OwnsCounts P k e w b cs) (hg : w.grownBy w' row) (hne : some b ≠ row) : OwnsCounts P k e w' b cs := by
  obtain ⟨D, h1, h2⟩ := h; exact ⟨D, h1.kept hg hne, h2⟩
theorem OwnsCounts.below (h : OwnsCounts P k e w b cs) {w' : World} (hb : Below w.heap.size w w') : OwnsCounts P k e w' b cs := by
  have hlt := h.lt
  obtain ⟨D, ⟨es, clock, h1, h2, h3, h4⟩, h5⟩ := h
  exact ⟨D, ⟨es, clock, (hb.block b hlt).trans h1, h2, h3, h4⟩, h5⟩
theorem OwnsCounts.len (h : OwnsCounts P k e w b cs) {t : TypeId} (ht : P.underlying t = some (.map k e)) (ty : TypeId) : (Builtin.len_ #[t] ty #[.map (some b)]).run P w = .ok (.int .i64 (kinds cs : Nat)) w := by
  obtain ⟨D, h1, h2, _⟩ := h
  rw [← h2]
  exact h1.len ht ty
theorem OwnsCounts.look (h : OwnsCounts P k e w b cs) (K : Keyed P k) {t : TypeId} (ht : P.underlying t = some (.map k e)) (he : P.underlying e = some (.int .i64)) (hz : (zeroValue e).run P w = .ok (.int .i64 0) w)
    {r : Int} (hkey : keyOf P k (.int .i64 r) = some (.int .i64 r)) : (Instr.lookup t (.map (some b)) (.int .i64 r) false).run P w = .ok (.int .i64 (cs.count r : Nat)) w := by
  obtain ⟨D, h1, h2, h3, h4⟩ := h
  obtain ⟨v, ps, hrun, hv⟩ := h1.lookup K ht hz (plainElem_int he (by decide)) hkey
  rw [h3 r] at hv
  obtain ⟨c, rfl, hc, hwc⟩ := plainElem_int_inv he hv
  simp only [Prod.mk.injEq, DataW.lit.injEq, Lit.int.injEq, true_and] at hc
  rw [hrun, ← hc.1]
/-- 'm[r] = its count and one' -/
theorem wpList_count (w : World) {ops : Array Oper} {rest : List Oper} {o : Oper} {a : Act} {Q : Exit → Act → World → Prop}
    (hg : o.guard = none) (m x v : Operand) (t : TypeId) (hop : o.op = Op.mapUpdate t m x v)
    (k e : TypeId) (K : Keyed P k) (ht : P.underlying t = some (.map k e)) (he : P.underlying e = some (.int .i64)) (b : Nat) (cs : List Int)
    (hm : a.eval m = .map (some b)) (hown : OwnsCounts P k e w b cs) (hn : cs.length < 1000000) (r : Int) (hx : a.eval x = .int .i64 r) (hv : a.eval v = .int .i64 ((cs.count r : Nat) + 1 : Int)) (hkey : keyOf P k (.int .i64 r) = some (.int .i64 r))
    (hK : ∀ w', OwnsCounts P k e w' b (r :: cs) → w.grownBy w' (some b) → wpList P ops Q rest (a.put o.dst undef) w') :
    wpList P ops Q (o :: rest) a w := by
  obtain ⟨D, h1, h2, h3, h4⟩ := hown
  have hcl : cs.count r ≤ cs.length := List.count_le_length
  have hwf : (Lit.int .i64 ((cs.count r : Nat) + 1 : Int)).wf = true := by
    simp [Lit.wf, IntKind.min, IntKind.max, IntKind.bits, IntKind.signed]; omega
  refine wpList_mapUpdate_own w hg m x v t hop k e K ht _ b cs.length D hm h1 (by unfold maxLen; omega) _ _ _ hx hv hkey _ [] (plainElem_int he hwf) ?_
  intro w' h5 h6
  refine hK w' ⟨_, h5, ?_, ?_, ?_⟩ h6
  · rw [Maps.size_put (h1.tidy K), h4 r, h2, kinds]
    by_cases e1 : r ∈ cs
    · rw [if_pos e1, decide_eq_true e1]; rfl
    · rw [if_neg e1, decide_eq_false e1]; rfl
  · intro z
    by_cases e1 : z = r
    · subst e1
      rw [Maps.atKey_put_same h1.isMap (show WideAt.IsKeyLit (.int .i64 z) from trivial), List.count_cons_self]
      rfl
    · rw [Maps.atKey_put_other (fun h => e1 (by injection h)), h3 z, List.count_cons_of_ne (fun h => e1 h.symm)]
  · intro z
    by_cases e1 : z = r
    · subst e1
      rw [Maps.has_put_same h1.isMap (show WideAt.IsKeyLit (.int .i64 z) from trivial), decide_eq_true (List.mem_cons_self ..)]
    · rw [Maps.has_put_other (fun h => e1 (by injection h)), h4 z]
      exact decide_eq_decide.2 (by simp [e1])

end Go.Proofs.YtffgoekdjcempaaGreat
