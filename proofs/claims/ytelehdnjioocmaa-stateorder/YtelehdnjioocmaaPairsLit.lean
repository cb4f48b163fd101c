/- Slices of pairs that are written out; marks compared; what stands beside the walk of a law on Set. -/
import Derived.Test.YtelehdnjioocmaaStateMark
import Derived.Test.YtelehdnjioocmaaOwnMore
import Derived.Test.YtelehdnjioocmaaEqualPairs
namespace Go.Proofs.Ytelehdnjioocmaa
open Go.ChangeShapes Go.WideShapes Go.ChangeAt Go.RowKit
open StateMath

theorem tab_lit (w : World) (t : TypeId) (k n : Nat) (R : List (List Value)) (cs : Array Value) (hc : cs.toList = R.flatten) (hn : R.length = n) (hk : ∀ r ∈ R, r.length = k) (hm : n ≤ maxLen) (b : Nat) (hb : b = w.heap.size) :
    Tab (w.alloc (.cells cs t)) (some ⟨b, 0, none⟩) n n k R := by
  subst hb
  refine ⟨hn, Nat.le_refl _, hm, (fun h => by cases h), fun _ => ⟨w.heap.size, 0, rfl, by simp, ?_⟩⟩
  intro i r hr j u hu
  rw [World.cell?_alloc_at _ _ _ _ rfl]
  show cs[0 + (i * k + j)]? = some u
  rw [Nat.zero_add, ← Array.getElem?_toList, hc]
  exact flatten_get hk hr hu
theorem held_mark : Try.prog.stoodInHeld 34 = false := by kernel_rfl
theorem eql_mark (a0 a1 b0 b1 : Int) (a2 a3 b2 b3 : Bool) (w : World) (B : Bool) (hB : B = true ↔ (a0 = b0 ∧ a1 = b1 ∧ a2 = b2 ∧ a3 = b3)) :
    (binOp .eql 34 (.agg #[.int .i64 a0, .int .i64 a1, .bool a2, .bool a3]) (.agg #[.int .i64 b0, .int .i64 b1, .bool b2, .bool b3])).run Try.prog w = .ok (.bool B) w := by
  rw [run_eql_struct, run_equalIn_agg w 9999 34 _ _ (by simp [Program.fieldsOf, Try.underlying34]) held_mark]
  simp [go_sem, Program.fieldsOf, Try.underlying34, Op.eqFields]
  by_cases h : a0 = b0 ∧ a1 = b1 ∧ a2 = b2 ∧ a3 = b3
  · obtain rfl : B = true := hB.2 h
    obtain ⟨rfl, rfl, rfl, rfl⟩ := h
    simp
  · obtain rfl : B = false := by
      cases B
      · rfl
      · exact absurd (hB.1 rfl) h
    by_cases h0 : a0 = b0 <;> by_cases h1 : a1 = b1 <;> by_cases h2 : a2 = b2 <;> by_cases h3 : a3 = b3 <;> simp [h0, h1, h2, h3] at h ⊢
theorem neq_mark (a0 a1 b0 b1 : Int) (a2 a3 b2 b3 : Bool) (w : World) (B : Bool) (hB : B = false ↔ (a0 = b0 ∧ a1 = b1 ∧ a2 = b2 ∧ a3 = b3)) :
    (binOp .neq 34 (.agg #[.int .i64 a0, .int .i64 a1, .bool a2, .bool a3]) (.agg #[.int .i64 b0, .int .i64 b1, .bool b2, .bool b3])).run Try.prog w = .ok (.bool B) w := by
  rw [run_neq_struct, run_equalIn_agg w 9999 34 _ _ (by simp [Program.fieldsOf, Try.underlying34]) held_mark]
  simp [go_sem, Program.fieldsOf, Try.underlying34, Op.eqFields]
  by_cases h : a0 = b0 ∧ a1 = b1 ∧ a2 = b2 ∧ a3 = b3
  · obtain rfl : B = false := hB.2 h
    obtain ⟨rfl, rfl, rfl, rfl⟩ := h
    simp
  · obtain rfl : B = true := by
      cases B
      · exact absurd (hB.1 rfl) h
      · rfl
    by_cases h0 : a0 = b0 <;> by_cases h1 : a1 = b1 <;> by_cases h2 : a2 = b2 <;> by_cases h3 : a3 = b3 <;> simp [h0, h1, h2, h3] at h ⊢
end Go.Proofs.Ytelehdnjioocmaa
