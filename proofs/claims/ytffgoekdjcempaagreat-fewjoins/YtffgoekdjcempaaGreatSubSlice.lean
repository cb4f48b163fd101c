/- Parts of a slice: from a place on, and up to a place. -/
import Derived.Test.YtffgoekdjcempaaGreatShapes
namespace Go.Proofs.YtffgoekdjcempaaGreat
open Go.ChangeShapes Go.WideShapes Go.ChangeAt Go.RowKit

/-- the address from which l[T:] begins -/
def fromA (a : Option Addr) (cap T k : Nat) : Option Addr := if cap = T then a else a.map (·.add (T * k))
theorem addr_add (b off j : Nat) : (⟨b, off, none⟩ : Addr).add j = ⟨b, off + j, none⟩ := by
  unfold Addr.add
  by_cases h : j = 0
  · rw [if_pos h, h]; rfl
  · rw [if_neg h]
theorem Tab.from_ {w : World} {a : Option Addr} {len cap k : Nat} {R : List (List Value)} (h : Tab w a len cap k R) (T : Nat) (hT : T ≤ len) : Tab w (fromA a cap T k) (len - T) (cap - T) k (R.drop T) := by
  have h1 := h.hle
  have h2 := h.hlen
  refine ⟨by rw [List.length_drop, h2], by omega, Nat.le_trans (Nat.sub_le _ _) h.hmax, ?_, ?_⟩
  · intro hn
    unfold fromA at hn
    by_cases hc : cap = T
    · omega
    · rw [if_neg hc] at hn
      have : a = none := by cases a <;> simp at hn ⊢
      rw [h.hnil this]
      omega
  · intro hl
    obtain ⟨b, off, ha, hlt, hc⟩ := h.hspot (by omega)
    refine ⟨b, off + T * k, ?_, hlt, ?_⟩
    · unfold fromA
      rw [if_neg (by omega), ha]
      simp [addr_add]
    · intro i r hr j u hu
      rw [List.getElem?_drop] at hr
      have := hc (T + i) r hr j u hu
      rw [show off + T * k + (i * k + j) = off + ((T + i) * k + j) from by rw [Nat.add_mul]; omega]
      exact this
theorem Tab.upto_ {w : World} {a : Option Addr} {len cap k : Nat} {R : List (List Value)} (h : Tab w a len cap k R) (T : Nat) (hT : T ≤ len) : Tab w a T cap k (R.take T) := by
  have h1 := h.hle
  have h2 := h.hlen
  refine ⟨by rw [List.length_take, h2]; omega, by omega, h.hmax, h.hnil, ?_⟩
  intro hl
  obtain ⟨b, off, ha, hlt, hc⟩ := h.hspot (by omega)
  refine ⟨b, off, ha, hlt, ?_⟩
  intro i r hr j u hu
  have hr' : R[i]? = some r := by
    rw [List.getElem?_take] at hr
    split at hr
    · exact hr
    · cases hr
  exact hc i r hr' j u hu
theorem run_from (t e : TypeId) (k : Nat) (ht : Tryz.prog.underlying t = some (.slice e)) (he : Tryz.prog.elem t = e) (hk : ∀ w, (sizeOf e).run Tryz.prog w = .ok k w) (a : Option Addr) (len cap T : Nat) (hT : T ≤ len) (w : World) :
    (Instr.slice t (.slice a len cap) (some (.int .i64 (T : Int))) none none).run Tryz.prog w = .ok (.slice (fromA a cap T k) (len - T) (cap - T)) w := by
  rw [run_slice_l w t a len cap (by rw [he]; exact ht) .i64 (T : Int) (by omega) (by omega), he, hk]
  simp [Result.andThen, sliced, fromA]
theorem run_upto (t e : TypeId) (k : Nat) (ht : Tryz.prog.underlying t = some (.slice e)) (he : Tryz.prog.elem t = e) (hk : ∀ w, (sizeOf e).run Tryz.prog w = .ok k w) (a : Option Addr) (len cap T : Nat) (hT : T ≤ cap) (w : World) :
    (Instr.slice t (.slice a len cap) none (some (.int .i64 (T : Int))) none).run Tryz.prog w = .ok (.slice a T cap) w := by
  rw [run_slice_h w t a len cap (by rw [he]; exact ht) .i64 (T : Int) (by omega) (by omega), he, hk]
  cases a with
  | none => simp [Result.andThen, sliced]
  | some ad =>
    have : ad.add 0 = ad := by unfold Addr.add; rw [if_pos rfl]
    simp [Result.andThen, sliced, this]
end Go.Proofs.YtffgoekdjcempaaGreat
