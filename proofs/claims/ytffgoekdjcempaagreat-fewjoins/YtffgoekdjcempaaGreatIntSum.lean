/- A map of sums with whole numbers for keys, told by the list of all that has been added (the last first): m[k] += n adds (k, n) to the list. For every program; no Go text in sight. -/
import Derived.Test.YtffgoekdjcempaaGreatIntCount
namespace Go.Proofs.YtffgoekdjcempaaGreat
open Go.Maps (Keyed)
open Go.RowKit

/-- what has been added at z -/
def oft (z : Int) : List (Int × Int) → Int
  | [] => 0
  | p :: C => (if p.1 = z then p.2 else 0) + oft z C
theorem oft_append (z : Int) : ∀ C D : List (Int × Int), oft z (C ++ D) = oft z C + oft z D
  | [], D => by simp [oft]
  | p :: C, D => by rw [List.cons_append, oft, oft, oft_append z C D, Int.add_assoc]
theorem oft_reverse (z : Int) : ∀ C : List (Int × Int), oft z C.reverse = oft z C
  | [] => rfl
  | p :: C => by
    rw [List.reverse_cons, oft_append, oft_reverse z C, oft, oft, oft]
    omega
/-- block b is a map in which just the keys of cs stand, each with the sum of what has been added there -/
def OwnsSums (P : Program) (k e : TypeId) (w : World) (b : Nat) (cs : List (Int × Int)) : Prop :=
  ∃ D : DataW Unit, w.ownsMap P k (plainElem P e) b cs.length D ∧ Maps.size D = kinds (cs.map (fun p => p.1)) ∧ (∀ z : Int, D.atKey (.int .i64 z) (.lit (.int .i64 0)) = .lit (.int .i64 (oft z cs))) ∧ ∀ z : Int, Maps.has D (.int .i64 z) = decide (z ∈ cs.map (fun p => p.1))

variable {P : Program} {k e : TypeId} {w : World} {b : Nat} {cs : List (Int × Int)}

theorem ownsSums_made (P : Program) (k e : TypeId) (w : World) : OwnsSums P k e (w.alloc (.map #[] 0)) w.heap.size [] :=
  ⟨.map [], World.ownsMap_made _ _ _ _, rfl, fun _ => rfl, fun _ => rfl⟩
theorem OwnsSums.lt (h : OwnsSums P k e w b cs) : b < w.heap.size := by obtain ⟨D, h1, _⟩ := h; exact h1.lt
theorem OwnsSums.kept {w' : World} {row : Option Nat} (h : OwnsSums P k e w b cs) (hg : w.grownBy w' row) (hne : some b ≠ row) : OwnsSums P k e w' b cs := by
  obtain ⟨D, h1, h2⟩ := h; exact ⟨D, h1.kept hg hne, h2⟩
theorem OwnsSums.below (h : OwnsSums P k e w b cs) {w' : World} (hb : Below w.heap.size w w') : OwnsSums P k e w' b cs := by
  have hlt := h.lt
  obtain ⟨D, ⟨es, clock, h1, h2, h3, h4⟩, h5⟩ := h
  exact ⟨D, ⟨es, clock, (hb.block b hlt).trans h1, h2, h3, h4⟩, h5⟩
theorem OwnsSums.look (h : OwnsSums P k e w b cs) (K : Keyed P k) {t : TypeId} (ht : P.underlying t = some (.map k e)) (he : P.underlying e = some (.int .i64)) (hz : (zeroValue e).run P w = .ok (.int .i64 0) w)
    {r : Int} (hkey : keyOf P k (.int .i64 r) = some (.int .i64 r)) : (Instr.lookup t (.map (some b)) (.int .i64 r) false).run P w = .ok (.int .i64 (oft r cs)) w := by
  obtain ⟨D, h1, h2, h3, h4⟩ := h
  obtain ⟨v, ps, hrun, hv⟩ := h1.lookup K ht hz (plainElem_int he (by decide)) hkey
  rw [h3 r] at hv
  obtain ⟨c, rfl, hc, hwc⟩ := plainElem_int_inv he hv
  simp only [Prod.mk.injEq, DataW.lit.injEq, Lit.int.injEq, true_and] at hc
  rw [hrun, ← hc.1]
/-- 'm[r] = its sum and n' -/
theorem wpList_sum15 (w : World) {ops : Array Oper} {rest : List Oper} {o : Oper} {a : Act} {Q : Exit → Act → World → Prop}
    (hg : o.guard = none) (m x v : Operand) (t : TypeId) (hop : o.op = Op.mapUpdate t m x v)
    (k e : TypeId) (K : Keyed P k) (ht : P.underlying t = some (.map k e)) (he : P.underlying e = some (.int .i64)) (b : Nat) (cs : List (Int × Int))
    (hm : a.eval m = .map (some b)) (hown : OwnsSums P k e w b cs) (hn : cs.length < 1000000) (r n : Int) (hx : a.eval x = .int .i64 r) (hv : a.eval v = .int .i64 (oft r cs + n)) (hlo : 0 ≤ oft r cs + n) (hhi : oft r cs + n ≤ 1000000000000000) (hkey : keyOf P k (.int .i64 r) = some (.int .i64 r))
    (hK : ∀ w', OwnsSums P k e w' b ((r, n) :: cs) → w.grownBy w' (some b) → wpList P ops Q rest (a.put o.dst undef) w') :
    wpList P ops Q (o :: rest) a w := by
  obtain ⟨D, h1, h2, h3, h4⟩ := hown
  have hwf : (Lit.int .i64 (oft r cs + n)).wf = true := by
    simp [Lit.wf, IntKind.min, IntKind.max, IntKind.bits, IntKind.signed]; omega
  refine wpList_mapUpdate_own w hg m x v t hop k e K ht _ b cs.length D hm h1 (by unfold maxLen; omega) _ _ _ hx hv hkey _ [] (plainElem_int he hwf) ?_
  intro w' h5 h6
  refine hK w' ⟨_, h5, ?_, ?_, ?_⟩ h6
  · rw [Maps.size_put (h1.tidy K), h4 r, h2, List.map_cons, kinds]
    by_cases e1 : r ∈ cs.map (fun p => p.1)
    · rw [if_pos e1, decide_eq_true e1]; rfl
    · rw [if_neg e1, decide_eq_false e1]; rfl
  · intro z
    by_cases e1 : z = r
    · subst e1
      rw [Maps.atKey_put_same h1.isMap (show WideAt.IsKeyLit (.int .i64 z) from trivial), oft, if_pos rfl, Int.add_comm]
    · rw [Maps.atKey_put_other (fun h => e1 (by injection h)), h3 z, oft, if_neg (fun h => e1 h.symm), Int.zero_add]
  · intro z
    by_cases e1 : z = r
    · subst e1
      rw [Maps.has_put_same h1.isMap (show WideAt.IsKeyLit (.int .i64 z) from trivial), decide_eq_true (by simp)]
    · rw [Maps.has_put_other (fun h => e1 (by injection h)), h4 z]
      exact decide_eq_decide.2 (by simp [e1])
theorem wpList_sum (w : World) {ops : Array Oper} {rest : List Oper} {o : Oper} {a : Act} {Q : Exit → Act → World → Prop}
    (hg : o.guard = none) (m x v : Operand) (t : TypeId) (hop : o.op = Op.mapUpdate t m x v)
    (k e : TypeId) (K : Keyed P k) (ht : P.underlying t = some (.map k e)) (he : P.underlying e = some (.int .i64)) (b : Nat) (cs : List (Int × Int))
    (hm : a.eval m = .map (some b)) (hown : OwnsSums P k e w b cs) (hn : cs.length < 1000000) (r n : Int) (hx : a.eval x = .int .i64 r) (hv : a.eval v = .int .i64 (oft r cs + n)) (hlo : 0 ≤ oft r cs + n) (hhi : oft r cs + n ≤ 1000000000000) (hkey : keyOf P k (.int .i64 r) = some (.int .i64 r))
    (hK : ∀ w', OwnsSums P k e w' b ((r, n) :: cs) → w.grownBy w' (some b) → wpList P ops Q rest (a.put o.dst undef) w') :
    wpList P ops Q (o :: rest) a w :=
  wpList_sum15 w hg m x v t hop k e K ht he b cs hm hown hn r n hx hv hlo (Int.le_trans hhi (by decide)) hkey hK
end Go.Proofs.YtffgoekdjcempaaGreat
