/- A map of bools with whole numbers for keys, used as a set, told by a list of its keys: looking up, putting in, taking out. For every program; no Go text in sight. -/
import Derived.Maps.OwnSet
import Derived.WalkKit
namespace Go.Proofs.Ytoijeafhohcbdaa
open Go.Maps (Keyed)
open Go.RowKit

/-- block b is a map of at most n entries, in which just the numbers of ks stand at true -/
def OwnsInts (P : Program) (k e : TypeId) (w : World) (b n : Nat) (ks : List Int) : Prop :=
  ∃ D : DataW Unit, w.ownsMap P k (plainElem P e) b n D ∧ ∀ z : Int, D.atKey (.int .i64 z) (.lit (.bool false)) = .lit (.bool (decide (z ∈ ks)))

variable {P : Program} {k e : TypeId} {w : World} {b n : Nat} {ks : List Int}

theorem plainBool_inv {H : Type} {P : Program} {e : TypeId} (he : P.underlying e = some .bool) {v : Value} {z : DataW H × List MemPlace} (h : plainElem P e v = some z) : ∃ x, v = .bool x ∧ z = (.lit (.bool x), []) := by
  unfold plainElem at h
  rw [he] at h
  cases v <;> simp at h
  exact ⟨_, rfl, h.symm⟩
theorem ownsInts_made (P : Program) (k e : TypeId) (w : World) : OwnsInts P k e (w.alloc (.map #[] 0)) w.heap.size 0 [] :=
  ⟨.map [], World.ownsMap_made _ _ _ _, fun _ => rfl⟩
theorem OwnsInts.lt (h : OwnsInts P k e w b n ks) : b < w.heap.size := by obtain ⟨D, h1, _⟩ := h; exact h1.lt
theorem OwnsInts.below (h : OwnsInts P k e w b n ks) {w' : World} (hb : Below w.heap.size w w') : OwnsInts P k e w' b n ks := by
  have hlt := h.lt
  obtain ⟨D, ⟨es, clock, h1, h2, h3, h4⟩, h5⟩ := h
  exact ⟨D, ⟨es, clock, (hb.block b hlt).trans h1, h2, h3, h4⟩, h5⟩
theorem OwnsInts.look (h : OwnsInts P k e w b n ks) (K : Keyed P k) {t : TypeId} (ht : P.underlying t = some (.map k e)) (he : P.underlying e = some .bool) (hz : (zeroValue e).run P w = .ok (.bool false) w)
    {r : Int} (hkey : keyOf P k (.int .i64 r) = some (.int .i64 r)) : (Instr.lookup t (.map (some b)) (.int .i64 r) false).run P w = .ok (.bool (decide (r ∈ ks))) w := by
  obtain ⟨D, h1, h2⟩ := h
  obtain ⟨v, ps, hrun, hv⟩ := h1.lookup K ht hz (plainElem_bool he false) hkey
  obtain ⟨c, rfl, hc⟩ := plainBool_inv he hv
  simp only [Prod.mk.injEq] at hc
  have e1 := h2 r
  rw [hc.1] at e1
  simp only [DataW.lit.injEq, Lit.bool.injEq] at e1
  rw [hrun, e1]
theorem put_keys {D : DataW Unit} {r : Int} (hD : Maps.IsMap D) (h2 : ∀ z : Int, D.atKey (.int .i64 z) (.lit (.bool false)) = .lit (.bool (decide (z ∈ ks)))) (z : Int) : (D.put (.int .i64 r) (.lit (.bool true))).atKey (.int .i64 z) (.lit (.bool false)) = .lit (.bool (decide (z ∈ r :: ks))) := by
  by_cases e1 : z = r
  · subst e1
    rw [Maps.atKey_put_same hD (show WideAt.IsKeyLit (.int .i64 z) from trivial), decide_eq_true (List.mem_cons_self ..)]
  · rw [Maps.atKey_put_other (fun h => e1 (by injection h)), h2 z]
    congr 2
    exact decide_eq_decide.2 (by simp [e1])
/-- 'm[r] = true', as an equation on the run -/
theorem OwnsInts.put (h : OwnsInts P k e w b n ks) (K : Keyed P k) {t : TypeId} (ht : P.underlying t = some (.map k e)) (he : P.underlying e = some .bool) (hn : n < maxLen) {r : Int} (hkey : keyOf P k (.int .i64 r) = some (.int .i64 r)) :
    ∃ w', (Instr.mapUpdate t (.map (some b)) (.int .i64 r) (.bool true)).run P w = .ok () w' ∧ OwnsInts P k e w' b (n + 1) (r :: ks) ∧ w.grownBy w' (some b) := by
  obtain ⟨D, h1, h2⟩ := h
  obtain ⟨w', hrun, r1, r2⟩ := h1.store K ht hn hkey (plainElem_bool he true)
  exact ⟨w', hrun, ⟨_, r1, put_keys h1.isMap h2⟩, r2.grown⟩
theorem wpList_putInt (w : World) {ops : Array Oper} {rest : List Oper} {o : Oper} {a : Act} {Q : Exit → Act → World → Prop}
    (hg : o.guard = none) (m x v : Operand) (t : TypeId) (hop : o.op = Op.mapUpdate t m x v)
    (k e : TypeId) (K : Keyed P k) (ht : P.underlying t = some (.map k e)) (he : P.underlying e = some .bool) (b n : Nat) (ks : List Int)
    (hm : a.eval m = .map (some b)) (hown : OwnsInts P k e w b n ks) (hn : n < maxLen) (r : Int) (hx : a.eval x = .int .i64 r) (hv : a.eval v = .bool true) (hkey : keyOf P k (.int .i64 r) = some (.int .i64 r))
    (hK : ∀ w', OwnsInts P k e w' b (n + 1) (r :: ks) → w.grownBy w' (some b) → wpList P ops Q rest (a.put o.dst undef) w') :
    wpList P ops Q (o :: rest) a w := by
  obtain ⟨D, h1, h2⟩ := hown
  refine wpList_mapUpdate_own w hg m x v t hop k e K ht _ b n D hm h1 hn _ _ _ hx hv hkey _ [] (plainElem_bool he true) ?_
  intro w' h3 h4
  exact hK w' ⟨_, h3, put_keys h1.isMap h2⟩ h4
/-- 'delete(m, r)' -/
theorem wpList_delInt (w : World) {ops : Array Oper} {rest : List Oper} {o : Oper} {a : Act} {Q : Exit → Act → World → Prop}
    (hg : o.guard = none) (m x : Operand) (t k : TypeId) (hop : o.op = Op.call { callee := Callee.builtin Builtin.delete, args := #[m, x], argTypes := #[t, k] })
    (e : TypeId) (K : Keyed P k) (ht : P.underlying t = some (.map k e)) (b n : Nat) (ks : List Int)
    (hm : a.eval m = .map (some b)) (hown : OwnsInts P k e w b n ks) (r : Int) (hx : a.eval x = .int .i64 r) (hkey : keyOf P k (.int .i64 r) = some (.int .i64 r))
    (hK : ∀ w', OwnsInts P k e w' b n (ks.filter (· ≠ r)) → w.grownBy w' (some b) → wpList P ops Q rest (a.put o.dst (.tuple #[])) w') :
    wpList P ops Q (o :: rest) a w := by
  obtain ⟨D, h1, h2⟩ := hown
  refine wpList_delete_own (w := w) hg m x t k hop e K ht _ b n D hm h1 _ _ hx hkey ?_
  intro w' h3 h4
  refine hK w' ⟨_, h3, fun z => ?_⟩ h4.grown
  by_cases e1 : z = r
  · subst e1
    rw [Maps.atKey_del_same, decide_eq_false (by simp)]
  · rw [Maps.atKey_del_other (fun h => e1 (by injection h)), h2 z]
    congr 2
    exact decide_eq_decide.2 (by simp [e1])

end Go.Proofs.Ytoijeafhohcbdaa
