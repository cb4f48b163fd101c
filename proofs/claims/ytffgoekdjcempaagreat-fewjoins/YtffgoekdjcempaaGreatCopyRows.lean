/- 'copy' of a whole slice into a slice of the call's own that is as long, for elements of any number of cells. For every program; no Go text in sight. -/
import Derived.Test.YtffgoekdjcempaaGreatOwnTwo
import Derived.Laws.CopyOwn
namespace Go.Proofs.YtffgoekdjcempaaGreat
open Go.RowKit

theorem run_copy_whole {P : Program} (w : World) (dT sT ty elem : TypeId) (g n k dCap : Nat) (a : Addr) (sCap : Nat) (cur : Array Value) (t : TypeId) (cs : List Value)
    (hu : P.underlying dT = some (.slice elem)) (hs : (P.info? elem).map (·.size) = some k) (hg : w.heap[g]? = some (.cells cur t (0, 0))) (hn : cs.length = n * k)
    (hsrc : ∀ j v, cs[j]? = some v → w.cell? (a.add j) = some v) (hfit : cs.length ≤ cur.size) (h1 : ∀ v ∈ cs, v.oneCell' = true) :
    (Builtin.copy_ #[dT, sT] ty #[.slice (some ⟨g, 0, none⟩) n dCap, .slice (some a) n sCap]).run P w = .ok (goInt n) (w.setRow g (cs ++ cur.toList.drop cs.length).toArray) := by
  have hl := run_loadCells_list (P := P) w a cs hsrc
  have hst := run_storeCells_at P g 0 t cs 0 cur w hg (by simpa using hfit) h1
  simp only [Nat.add_zero, Nat.zero_add, List.take_zero, List.nil_append] at hst
  cases hq : P.info? elem with
  | none => simp [hq] at hs
  | some i =>
    have hi : i.size = k := by simpa [hq] using hs
    simp [Builtin.copy_, run_underlying hu, Builtin.lenOf, Builtin.firstCells, sizeOf, typeInfo, hq, hi, ← hn, hl, hst]

/-- the row of the call's own slice is as if it had been made so -/
theorem Own.laid {w : World} {base : Nat} {e : TypeId} {k g n cap : Nat} {R R' : List (List Value)} (h : Own w base e k (.slice (some ⟨g, 0, none⟩) n cap) R) (hl : R'.length = n) (hr : ∀ r ∈ R', r.length = k) :
    ∃ cur, w.heap[g]? = some (.cells cur e (0, 0)) ∧ R'.flatten.length ≤ cur.size ∧ Own (w.setRow g (R'.flatten ++ cur.toList.drop R'.flatten.length).toArray) base e k (.slice (some ⟨g, 0, none⟩) n cap) R' := by
  obtain ⟨⟨hxl, hv⟩, hR⟩ := h
  rcases hv with ⟨h0, _⟩ | ⟨g', cap', cur, h0, hg, hcur, hle, hm, hsz, htk⟩
  · cases h0
  simp only [Value.slice.injEq, Option.some.injEq, Addr.mk.injEq, and_true] at h0
  obtain ⟨rfl, hn, rfl⟩ := h0
  have hf := flatten_len hr
  rw [hl] at hf
  have hfit : R'.flatten.length ≤ cur.size := by rw [hf, hsz, hn]; exact Nat.mul_le_mul_right _ hle
  refine ⟨cur, hcur, hfit, ⟨⟨by rw [hf, hl], Or.inr ⟨g, cap, _, by rw [hl], hg, setRow_heap w g cur _ e _ hcur, by rw [hl, hn]; exact hle, hm, ?_, ?_⟩⟩, hr⟩⟩
  · have e1 : cur.toList.length = cur.size := Array.length_toList
    rw [List.size_toArray, List.length_append, List.length_drop]; omega
  · simp only
    rw [hl, ← hf, List.take_append_of_le_length (Nat.le_refl _), List.take_length]

theorem wpList_copy_rows {P : Program} {w : World} {ops : Array Oper} {rest : List Oper} {o : Oper} {a : Act} {Q : Exit → Act → World → Prop} (hgd : o.guard = none) (d s : Operand) (dT sT : TypeId)
    (ho : o.op = .call { callee := .builtin .copy, args := #[d, s], argTypes := #[dT, sT] }) (elem : TypeId) (k : Nat) (hu : P.underlying dT = some (.slice elem)) (hsz : (P.info? elem).map (·.size) = some k) (hk : 0 < k)
    (base g n dCap : Nat) (R : List (List Value)) (hO : Own w base elem k (.slice (some ⟨g, 0, none⟩) n dCap) R)
    (ad : Option Addr) (sCap : Nat) (R' : List (List Value)) (hT : Tab w ad n sCap k R') (hr : ∀ r ∈ R', r.length = k) (h1 : ∀ u ∈ R'.flatten, u.oneCell' = true)
    (hd : a.eval d = .slice (some ⟨g, 0, none⟩) n dCap) (hs : a.eval s = .slice ad n sCap)
    (h : ∀ w', Own w' base elem k (.slice (some ⟨g, 0, none⟩) n dCap) R' → w.grownBy w' (some g) → wpList P ops Q rest (a.put o.dst (goInt n)) w') : wpList P ops Q (o :: rest) a w := by
  refine wpList_plain hgd fun K hK => ?_
  cases ad with
  | none =>
    obtain ⟨rfl, rfl⟩ := hT.nil_of
    have hc := hT.hnil rfl
    subst hc
    have hrun := run_copy_nil P w dT sT o.type elem ⟨g, 0, none⟩ 0 dCap hu (by cases hq : P.info? elem with | none => simp [hq] at hsz | some i => rfl)
    have e : R = [] := List.length_eq_zero_iff.1 (by
      obtain ⟨⟨_, hv⟩, _⟩ := hO
      rcases hv with ⟨h0, _⟩ | ⟨g', cap', cur, h0, _⟩
      · cases h0
      · simp only [Value.slice.injEq] at h0; exact h0.2.1.symm)
    subst e
    unfold Oper.wp
    simp [execOp, ho, resolve, invoke, builtin, hd, hs, hrun, Result.andThen]
    exact hK _ _ (h w hO ⟨rfl, rfl, rfl, Nat.le_refl _, fun _ _ _ => rfl⟩)
  | some ad =>
    obtain ⟨cur, hcur, hfit, hO'⟩ := hO.laid hT.hlen hr
    have hrun := run_copy_whole (P := P) w dT sT o.type elem g n k dCap ad sCap cur elem R'.flatten hu hsz hcur (by rw [flatten_len hr, hT.hlen]) (hT.flat (Below.refl _ _) hk hr) hfit h1
    unfold Oper.wp
    simp [execOp, ho, resolve, invoke, builtin, hd, hs, hrun, Result.andThen]
    rw [show (List.map List.length R').sum = R'.flatten.length from List.length_flatten.symm]
    refine hK _ _ (h _ hO' ⟨rfl, rfl, rfl, by simp [World.setRow], fun j _ hne => setRow_other w g j _ (fun e => hne (by rw [e]))⟩)
end Go.Proofs.YtffgoekdjcempaaGreat
