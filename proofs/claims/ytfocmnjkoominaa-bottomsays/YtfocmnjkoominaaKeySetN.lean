/- A map of bools with whole numbers for keys, used as a set: a key may be put again; its keys, its exact size. For every program; no Go text in sight. -/
import Derived.Maps.OwnSet
import Derived.WalkKit
namespace Go.Proofs.Ytfocmnjkoominaa
open Go.Maps (Keyed)
open Go.RowKit

/-- behind at most n stores, block b is a map in which just the keys of ks stand, each at true -/
def OwnsKeysN (P : Program) (k e : TypeId) (w : World) (b n : Nat) (ks : List Int) : Prop :=
  ∃ D : DataW Unit, w.ownsMap P k (plainElem P e) b n D ∧ Maps.size D = ks.length ∧ (∀ z : Int, z ∈ ks → D.atKey (.int .i64 z) (.lit (.bool false)) = .lit (.bool true)) ∧ ∀ z : Int, z ∉ ks → Maps.has D (.int .i64 z) = false
/-- a key more -/
def addK (ks : List Int) (r : Int) : List Int := if r ∈ ks then ks else ks ++ [r]
theorem mem_addK {ks : List Int} {r z : Int} : z ∈ addK ks r ↔ z ∈ ks ∨ z = r := by
  unfold addK
  split
  · rename_i h
    constructor
    · exact Or.inl
    · rintro (h1 | rfl)
      · exact h1
      · exact h
  · simp
theorem nodup_addK {ks : List Int} {r : Int} (h : ks.Nodup) : (addK ks r).Nodup := by
  unfold addK
  split
  · exact h
  · rename_i hr
    rw [List.nodup_append]
    exact ⟨h, by simp, fun a ha b hb => by rw [List.mem_singleton.1 hb]; exact fun e => hr (e ▸ ha)⟩

variable {P : Program} {k e : TypeId} {w : World} {b n : Nat} {ks : List Int}

theorem ownsKeysN_made (P : Program) (k e : TypeId) (w : World) : OwnsKeysN P k e (w.alloc (.map #[] 0)) w.heap.size 0 [] :=
  ⟨.map [], World.ownsMap_made _ _ _ _, rfl, fun _ h => by simp at h, fun _ _ => rfl⟩
theorem OwnsKeysN.lt (h : OwnsKeysN P k e w b n ks) : b < w.heap.size := by obtain ⟨D, h1, _⟩ := h; exact h1.lt
theorem OwnsKeysN.below (h : OwnsKeysN P k e w b n ks) {w' : World} (hb : Below w.heap.size w w') : OwnsKeysN P k e w' b n ks := by
  have hlt := h.lt
  obtain ⟨D, ⟨es, clock, h1, h2, h3, h4⟩, h5⟩ := h
  exact ⟨D, ⟨es, clock, (hb.block b hlt).trans h1, h2, h3, h4⟩, h5⟩
theorem OwnsKeysN.len (h : OwnsKeysN P k e w b n ks) {t : TypeId} (ht : P.underlying t = some (.map k e)) (ty : TypeId) : (Builtin.len_ #[t] ty #[.map (some b)]).run P w = .ok (.int .i64 (ks.length : Nat)) w := by
  obtain ⟨D, h1, h2, _⟩ := h
  rw [← h2]
  exact h1.len ht ty
/-- is a key there? -/
theorem OwnsKeysN.look (h : OwnsKeysN P k e w b n ks) (K : Keyed P k) {t : TypeId} (ht : P.underlying t = some (.map k e)) (he : P.underlying e = some .bool) (hz : (zeroValue e).run P w = .ok (.bool false) w)
    {r : Int} (hkey : keyOf P k (.int .i64 r) = some (.int .i64 r)) (c : Bool) (hc : c = true ↔ r ∈ ks) : (Instr.lookup t (.map (some b)) (.int .i64 r) false).run P w = .ok (.bool c) w := by
  obtain ⟨D, h1, h2, h3, h4⟩ := h
  obtain ⟨v, ps, hrun, hv⟩ := h1.lookup K ht hz (plainElem_bool he false) hkey
  cases c with
  | false =>
    rw [Maps.atKey_of_not_has (h4 r (fun hr => by have := hc.2 hr; cases this))] at hv
    cases hu : v <;> rw [hu] at hv <;> simp [plainElem, he] at hv
    rw [hrun, hu, hv.1]
  | true =>
    rw [h3 r (hc.1 rfl)] at hv
    cases hu : v <;> rw [hu] at hv <;> simp [plainElem, he] at hv
    rw [hrun, hu, hv.1]
theorem has_of_true {D : DataW Unit} {z : Int} (h : D.atKey (.int .i64 z) (.lit (.bool false)) = .lit (.bool true)) : Maps.has D (.int .i64 z) = true := by
  cases hh : Maps.has D (.int .i64 z) with
  | true => rfl
  | false => rw [Maps.atKey_of_not_has hh] at h; cases h
/-- 'm[r] = true' -/
theorem wpList_putKey (w : World) {ops : Array Oper} {rest : List Oper} {o : Oper} {a : Act} {Q : Exit → Act → World → Prop}
    (hg : o.guard = none) (m x v : Operand) (t : TypeId) (hop : o.op = Op.mapUpdate t m x v)
    (k e : TypeId) (K : Keyed P k) (ht : P.underlying t = some (.map k e)) (he : P.underlying e = some .bool) (b n : Nat) (ks : List Int)
    (hm : a.eval m = .map (some b)) (hown : OwnsKeysN P k e w b n ks) (hn : n < maxLen) (r : Int) (hx : a.eval x = .int .i64 r) (hv : a.eval v = .bool true) (hkey : keyOf P k (.int .i64 r) = some (.int .i64 r))
    (hK : ∀ w', OwnsKeysN P k e w' b (n + 1) (addK ks r) → w.grownBy w' (some b) → wpList P ops Q rest (a.put o.dst undef) w') :
    wpList P ops Q (o :: rest) a w := by
  obtain ⟨D, h1, h2, h3, h4⟩ := hown
  refine wpList_mapUpdate_own w hg m x v t hop k e K ht _ b n D hm h1 hn _ _ _ hx hv hkey _ [] (plainElem_bool he true) ?_
  intro w' h5 h6
  refine hK w' ⟨_, h5, ?_, ?_, ?_⟩ h6
  · rw [Maps.size_put (h1.tidy K), h2]
    unfold addK
    by_cases hr : r ∈ ks
    · rw [has_of_true (h3 r hr), if_pos hr]; simp
    · rw [h4 r hr, if_neg hr]; simp
  · intro z hz
    by_cases e1 : z = r
    · subst e1
      rw [Maps.atKey_put_same h1.isMap (show WideAt.IsKeyLit (.int .i64 z) from trivial)]
    · rw [Maps.atKey_put_other (fun h => e1 (by injection h))]
      exact h3 z (by rcases mem_addK.1 hz with h | h; exact h; exact absurd h e1)
  · intro z hz
    have e1 : z ≠ r := fun h => hz (mem_addK.2 (Or.inr h))
    rw [Maps.has_put_other (fun h => e1 (by injection h))]
    exact h4 z (fun h => hz (mem_addK.2 (Or.inl h)))
end Go.Proofs.Ytfocmnjkoominaa
