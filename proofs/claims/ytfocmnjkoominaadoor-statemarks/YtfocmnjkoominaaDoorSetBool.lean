/- A map of bools that the call itself makes, used as a set: what a look-up gives, what a store of true does. For every program; no Go text in sight. -/
import Derived.Maps.OwnSet
import Derived.WalkKit
namespace Go.Proofs.YtfocmnjkoominaaDoor
open Go.Maps (Keyed)
open Go.RowKit

theorem plainElem_bool_inv {H : Type} {P : Program} {e : TypeId} (he : P.underlying e = some .bool) {v : Value} {z : DataW H × List MemPlace} (h : plainElem P e v = some z) : ∃ x, v = .bool x ∧ z = (.lit (.bool x), []) := by
  unfold plainElem at h
  rw [he] at h
  cases v <;> simp at h
  exact ⟨_, rfl, h.symm⟩

/-- block b is a map of at most n entries, in which just the keys of S stand at true -/
def OwnsSet (P : Program) (k e : TypeId) (w : World) (b n : Nat) (S : Lit → Bool) : Prop :=
  ∃ D : DataW Unit, w.ownsMap P k (plainElem P e) b n D ∧ ∀ kl, WideAt.IsKeyLit kl → D.atKey kl (.lit (.bool false)) = .lit (.bool (S kl))

variable {P : Program} {k e : TypeId} {w : World} {b n : Nat} {S : Lit → Bool}

theorem ownsSet_made (P : Program) (k e : TypeId) (w : World) : OwnsSet P k e (w.alloc (.map #[] 0)) w.heap.size 0 (fun _ => false) :=
  ⟨.map [], World.ownsMap_made _ _ _ _, fun _ _ => rfl⟩
theorem OwnsSet.lt (h : OwnsSet P k e w b n S) : b < w.heap.size := by obtain ⟨D, h1, _⟩ := h; exact h1.lt
theorem OwnsSet.mono (h : OwnsSet P k e w b n S) {n' : Nat} (hn : n ≤ n') : OwnsSet P k e w b n' S := by
  obtain ⟨D, h1, h2⟩ := h; exact ⟨D, h1.mono hn, h2⟩
theorem OwnsSet.alloc (h : OwnsSet P k e w b n S) (o : Obj) : OwnsSet P k e (w.alloc o) b n S := by
  obtain ⟨D, h1, h2⟩ := h; exact ⟨D, h1.alloc o, h2⟩
theorem OwnsSet.below (h : OwnsSet P k e w b n S) {w' : World} (hb : Below w.heap.size w w') : OwnsSet P k e w' b n S := by
  have hlt := h.lt
  obtain ⟨D, ⟨es, clock, h1, h2, h3, h4⟩, h5⟩ := h
  exact ⟨D, ⟨es, clock, (hb.block b hlt).trans h1, h2, h3, h4⟩, h5⟩
theorem OwnsSet.look (h : OwnsSet P k e w b n S) (K : Keyed P k) {t : TypeId} (ht : P.underlying t = some (.map k e)) (he : P.underlying e = some .bool) (hz : (zeroValue e).run P w = .ok (.bool false) w)
    {key : Value} {kl : Lit} (hkey : keyOf P k key = some kl) (hk : WideAt.IsKeyLit kl) : (Instr.lookup t (.map (some b)) key false).run P w = .ok (.bool (S kl)) w := by
  obtain ⟨D, h1, h2⟩ := h
  obtain ⟨v, ps, hrun, hv⟩ := h1.lookup K ht hz (plainElem_bool he false) hkey
  obtain ⟨c, rfl, hc⟩ := plainElem_bool_inv he hv
  simp only [Prod.mk.injEq] at hc
  have e1 := h2 kl hk
  rw [hc.1] at e1
  simp only [DataW.lit.injEq, Lit.bool.injEq] at e1
  rw [hrun, e1]
theorem OwnsSet.look_ok (h : OwnsSet P k e w b n S) (K : Keyed P k) {t : TypeId} (ht : P.underlying t = some (.map k e)) (he : P.underlying e = some .bool) (hz : (zeroValue e).run P w = .ok (.bool false) w)
    {key : Value} {kl : Lit} (hkey : keyOf P k key = some kl) : ∃ x ok : Bool, (Instr.lookup t (.map (some b)) key true).run P w = .ok (.tuple #[.bool x, .bool ok]) w := by
  obtain ⟨D, h1, h2⟩ := h
  obtain ⟨v, ps, hrun, hv⟩ := h1.look_ok K ht hz (plainElem_bool he false) hkey
  obtain ⟨c, rfl, hc⟩ := plainElem_bool_inv he hv
  exact ⟨_, _, hrun⟩

/-- 'm[k] = true' at the operation, for the walk -/
theorem wpList_setTrue (w : World) {ops : Array Oper} {rest : List Oper} {o : Oper} {a : Act} {Q : Exit → Act → World → Prop}
    (hg : o.guard = none) (m x v : Operand) (t : TypeId) (hop : o.op = Op.mapUpdate t m x v)
    (k e : TypeId) (K : Keyed P k) (ht : P.underlying t = some (.map k e)) (he : P.underlying e = some .bool) (b n : Nat) (S : Lit → Bool)
    (hm : a.eval m = .map (some b)) (hown : OwnsSet P k e w b n S) (hn : n < maxLen) (key : Value) (kl : Lit) (hx : a.eval x = key) (hv : a.eval v = .bool true) (hkey : keyOf P k key = some kl) (hk : WideAt.IsKeyLit kl)
    (hK : ∀ w', OwnsSet P k e w' b (n + 1) (fun y => y.sameKey kl || S y) → w.grownBy w' (some b) → wpList P ops Q rest (a.put o.dst undef) w') :
    wpList P ops Q (o :: rest) a w := by
  obtain ⟨D, h1, h2⟩ := hown
  refine wpList_mapUpdate_own w hg m x v t hop k e K ht _ b n D hm h1 hn key _ kl hx hv hkey _ [] (plainElem_bool he true) ?_
  intro w' h3 h4
  refine hK w' ⟨_, h3, ?_⟩ h4
  intro y hy
  by_cases e1 : y = kl
  · subst e1
    rw [Maps.atKey_put_same (h1.isMap) hy]
    show _ = DataW.lit (Lit.bool (y.sameKey y || S y))
    rw [WideAt.sameKey_self hy, Bool.true_or]
  · rw [Maps.atKey_put_other e1, h2 y hy]
    show _ = DataW.lit (Lit.bool (y.sameKey kl || S y))
    rw [Maps.sameKey_ne e1, Bool.false_or]

end Go.Proofs.YtfocmnjkoominaaDoor
