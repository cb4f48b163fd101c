/- A map of bools with whole numbers for keys, used as a set, told by the list of its keys, with its exact size. For every program; no Go text in sight. -/
import Derived.Maps.OwnSet
import Derived.WalkKit
namespace Go.Proofs.Ytanfkolcoaofdaa
open Go.Maps (Keyed)
open Go.RowKit

/-- block b is a map in which just the keys of ks stand, each at true -/
def OwnsKeys (P : Program) (k e : TypeId) (w : World) (b : Nat) (ks : List Int) : Prop :=
  ∃ D : DataW Unit, w.ownsMap P k (plainElem P e) b ks.length D ∧ Maps.size D = ks.length ∧ (∀ z : Int, z ∈ ks → D.atKey (.int .i64 z) (.lit (.bool false)) = .lit (.bool true)) ∧ ∀ z : Int, z ∉ ks → Maps.has D (.int .i64 z) = false

variable {P : Program} {k e : TypeId} {w : World} {b : Nat} {ks : List Int}

theorem ownsKeys_made (P : Program) (k e : TypeId) (w : World) : OwnsKeys P k e (w.alloc (.map #[] 0)) w.heap.size [] :=
  ⟨.map [], World.ownsMap_made _ _ _ _, rfl, fun _ h => by simp at h, fun _ _ => rfl⟩
theorem OwnsKeys.lt (h : OwnsKeys P k e w b ks) : b < w.heap.size := by obtain ⟨D, h1, _⟩ := h; exact h1.lt
theorem OwnsKeys.kept {w' : World} {row : Option Nat} (h : OwnsKeys P k e w b ks) (hg : w.grownBy w' row) (hne : some b ≠ row) : OwnsKeys P k e w' b ks := by
  obtain ⟨D, h1, h2⟩ := h; exact ⟨D, h1.kept hg hne, h2⟩
theorem OwnsKeys.below (h : OwnsKeys P k e w b ks) {w' : World} (hb : Below w.heap.size w w') : OwnsKeys P k e w' b ks := by
  have hlt := h.lt
  obtain ⟨D, ⟨es, clock, h1, h2, h3, h4⟩, h5⟩ := h
  exact ⟨D, ⟨es, clock, (hb.block b hlt).trans h1, h2, h3, h4⟩, h5⟩
theorem OwnsKeys.len (h : OwnsKeys P k e w b ks) {t : TypeId} (ht : P.underlying t = some (.map k e)) (ty : TypeId) : (Builtin.len_ #[t] ty #[.map (some b)]).run P w = .ok (.int .i64 (ks.length : Nat)) w := by
  obtain ⟨D, h1, h2, _⟩ := h
  rw [← h2]
  exact h1.len ht ty
/-- a key that is not there -/
theorem OwnsKeys.look_new (h : OwnsKeys P k e w b ks) (K : Keyed P k) {t : TypeId} (ht : P.underlying t = some (.map k e)) (he : P.underlying e = some .bool) (hz : (zeroValue e).run P w = .ok (.bool false) w)
    {r : Int} (hkey : keyOf P k (.int .i64 r) = some (.int .i64 r)) (hr : r ∉ ks) : (Instr.lookup t (.map (some b)) (.int .i64 r) false).run P w = .ok (.bool false) w := by
  obtain ⟨D, h1, h2, h3, h4⟩ := h
  obtain ⟨v, ps, hrun, hv⟩ := h1.lookup K ht hz (plainElem_bool he false) hkey
  rw [Maps.atKey_of_not_has (h4 r hr)] at hv
  cases hu : v <;> rw [hu] at hv <;> simp [plainElem, he] at hv
  rw [hrun, hu, hv.1]
/-- 'm[r] = true' of a key that is not there -/
theorem wpList_newKey (w : World) {ops : Array Oper} {rest : List Oper} {o : Oper} {a : Act} {Q : Exit → Act → World → Prop}
    (hg : o.guard = none) (m x v : Operand) (t : TypeId) (hop : o.op = Op.mapUpdate t m x v)
    (k e : TypeId) (K : Keyed P k) (ht : P.underlying t = some (.map k e)) (he : P.underlying e = some .bool) (b : Nat) (ks : List Int)
    (hm : a.eval m = .map (some b)) (hown : OwnsKeys P k e w b ks) (hn : ks.length < maxLen) (r : Int) (hx : a.eval x = .int .i64 r) (hv : a.eval v = .bool true) (hkey : keyOf P k (.int .i64 r) = some (.int .i64 r)) (hr : r ∉ ks)
    (hK : ∀ w', OwnsKeys P k e w' b (ks ++ [r]) → w.grownBy w' (some b) → wpList P ops Q rest (a.put o.dst undef) w') :
    wpList P ops Q (o :: rest) a w := by
  obtain ⟨D, h1, h2, h3, h4⟩ := hown
  refine wpList_mapUpdate_own w hg m x v t hop k e K ht _ b ks.length D hm h1 hn _ _ _ hx hv hkey _ [] (plainElem_bool he true) ?_
  intro w' h5 h6
  refine hK w' ⟨_, by rw [List.length_append]; exact h5, ?_, ?_, ?_⟩ h6
  · rw [Maps.size_put (h1.tidy K), h4 r hr, h2]
    simp
  · intro z hz
    by_cases e1 : z = r
    · subst e1
      rw [Maps.atKey_put_same h1.isMap (show WideAt.IsKeyLit (.int .i64 z) from trivial)]
    · rw [Maps.atKey_put_other (fun h => e1 (by injection h))]
      exact h3 z (by rcases List.mem_append.1 hz with h | h; exact h; exact absurd (List.mem_singleton.1 h) e1)
  · intro z hz
    have e1 : z ≠ r := fun h => hz (by rw [h]; simp)
    rw [Maps.has_put_other (fun h => e1 (by injection h))]
    exact h4 z (fun h => hz (List.mem_append_left _ h))

end Go.Proofs.Ytanfkolcoaofdaa
