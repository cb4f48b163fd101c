/- Texts joined: CompactOwn, SubSlice. -/
import Derived.Test.YtffgoekdjcempabGr18
import Derived.Test.YtffgoekdjcempabShapes
/- The contract of slices.Compact on a slice of ints that the call made itself. -/
namespace Go.Proofs.Ytffgoekdjcempab
open Go.ChangeShapes Go.WideShapes Go.ChangeAt Go.RowKit

theorem compact_own {w : World} {base : Nat} {v : Value} {l : List Int} (h : Own w base 3 1 v (l.map iC)) (hb : l.length ≤ 1000000) (hc : (Lib.compact l).length ≤ l.length) :
    Calls Try.prog 85 #[v] w fun e w' => ∃ v', e = .returned v' ∧ Own w' base 3 1 v' ((Lib.compact l).map iC) ∧ w.grownBy w' v.ownBlock := by
  rcases own_ways h with ⟨rfl, a, cap, rfl⟩ | ⟨g, cap, cur, rfl, hg, hcur, hle, hm, hsz, htk⟩
  · refine (slices_Compact_int_empty a cap w).mono ?_
    rintro e w' ⟨rfl, rfl⟩
    exact ⟨_, rfl, h, grown_same _ _⟩
  · refine (slices_Compact_int g 0 cap l w (holds_of_blockI hcur htk) (by omega) hle).mono ?_
    rintro e w' ⟨rfl, q, hw⟩
    have hD : (Lib.compact l ++ List.replicate (l.length - (Lib.compact l).length) (0 : Int)).length = l.length := by rw [List.length_append, List.length_replicate]; omega
    have hw2 : w' = Go.Sort.grow (Go.Sort.putRow (Value.int .i64) (Go.Sort.ahead w q) g 0 (Lib.compact l ++ List.replicate (l.length - (Lib.compact l).length) 0).toArray) #[] := by rw [hw, Go.Sort.grow_empty]
    have h1 := take_putCellsI cur (Lib.compact l ++ List.replicate (l.length - (Lib.compact l).length) 0) (by rw [hD, hsz]; exact hle)
    have h2 : ∀ (M : List Value) (a b : Nat), a ≤ b → M.take a = (M.take b).take a := fun M a b hab => by rw [List.take_take, Nat.min_eq_left hab]
    refine ⟨_, rfl, own_again rfl hg (by rw [hw2]; exact heap_sortedI _ hcur) (by omega) hm (by simp [Go.Sort.putCells, hsz]) ?_, by rw [hw2]; exact grownBy_sortedI _⟩
    rw [h2 _ _ (Lib.compact l ++ List.replicate (l.length - (Lib.compact l).length) (0 : Int)).length (by simp), h1, List.map_append, List.take_append_of_le_length (by simp), List.take_of_length_le (by simp)]
end Go.Proofs.Ytffgoekdjcempab

/- Parts of a slice: from a place on, and up to a place. -/
namespace Go.Proofs.Ytffgoekdjcempab
open Go.ChangeShapes Go.WideShapes Go.ChangeAt Go.RowKit

/-- the address from which l[T:] begins -/
def fromA (a : Option Addr) (cap T k : Nat) : Option Addr := if cap = T then a else a.map (·.add (T * k))
theorem addr_add (b off j : Nat) : (⟨b, off, none⟩ : Addr).add j = ⟨b, off + j, none⟩ := by
  unfold Addr.add
  by_cases h : j = 0
  · rw [if_pos h, h]; rfl
  · rw [if_neg h]
theorem Tab.from_ {w : World} {a : Option Addr} {len cap k : Nat} {R : List (List Value)} (h : Tab w a len cap k R) (T : Nat) (hT : T ≤ len) : Tab w (fromA a cap T k) (len - T) (cap - T) k (R.drop T) := by
  have h1 := h.hle
  have h2 := h.hlen
  refine ⟨by rw [List.length_drop, h2], by omega, Nat.le_trans (Nat.sub_le _ _) h.hmax, ?_, ?_⟩
  · intro hn
    unfold fromA at hn
    by_cases hc : cap = T
    · omega
    · rw [if_neg hc] at hn
      have : a = none := by cases a <;> simp at hn ⊢
      rw [h.hnil this]
      omega
  · intro hl
    obtain ⟨b, off, ha, hlt, hc⟩ := h.hspot (by omega)
    refine ⟨b, off + T * k, ?_, hlt, ?_⟩
    · unfold fromA
      rw [if_neg (by omega), ha]
      simp [addr_add]
    · intro i r hr j u hu
      rw [List.getElem?_drop] at hr
      have := hc (T + i) r hr j u hu
      rw [show off + T * k + (i * k + j) = off + ((T + i) * k + j) from by rw [Nat.add_mul]; omega]
      exact this
theorem Tab.upto_ {w : World} {a : Option Addr} {len cap k : Nat} {R : List (List Value)} (h : Tab w a len cap k R) (T : Nat) (hT : T ≤ len) : Tab w a T cap k (R.take T) := by
  have h1 := h.hle
  have h2 := h.hlen
  refine ⟨by rw [List.length_take, h2]; omega, by omega, h.hmax, h.hnil, ?_⟩
  intro hl
  obtain ⟨b, off, ha, hlt, hc⟩ := h.hspot (by omega)
  refine ⟨b, off, ha, hlt, ?_⟩
  intro i r hr j u hu
  have hr' : R[i]? = some r := by
    rw [List.getElem?_take] at hr
    split at hr
    · exact hr
    · cases hr
  exact hc i r hr' j u hu
theorem run_from (t e : TypeId) (k : Nat) (ht : Try.prog.underlying t = some (.slice e)) (he : Try.prog.elem t = e) (hk : ∀ w, (sizeOf e).run Try.prog w = .ok k w) (a : Option Addr) (len cap T : Nat) (hT : T ≤ len) (w : World) :
    (Instr.slice t (.slice a len cap) (some (.int .i64 (T : Int))) none none).run Try.prog w = .ok (.slice (fromA a cap T k) (len - T) (cap - T)) w := by
  rw [run_slice_l w t a len cap (by rw [he]; exact ht) .i64 (T : Int) (by omega) (by omega), he, hk]
  simp [Result.andThen, sliced, fromA]
theorem run_upto (t e : TypeId) (k : Nat) (ht : Try.prog.underlying t = some (.slice e)) (he : Try.prog.elem t = e) (hk : ∀ w, (sizeOf e).run Try.prog w = .ok k w) (a : Option Addr) (len cap T : Nat) (hT : T ≤ cap) (w : World) :
    (Instr.slice t (.slice a len cap) none (some (.int .i64 (T : Int))) none).run Try.prog w = .ok (.slice a T cap) w := by
  rw [run_slice_h w t a len cap (by rw [he]; exact ht) .i64 (T : Int) (by omega) (by omega), he, hk]
  cases a with
  | none => simp [Result.andThen, sliced]
  | some ad =>
    have : ad.add 0 = ad := by unfold Addr.add; rw [if_pos rfl]
    simp [Result.andThen, sliced, this]
end Go.Proofs.Ytffgoekdjcempab
