/- Slices of pairs that are written out; marks compared; what stands beside the walk of a law on Set. -/
import Derived.Test.YtfocmnjkoominaaDoorStateMark
import Derived.Test.YtfocmnjkoominaaDoorOwnMore
import Derived.Test.YtfocmnjkoominaaDoorLit
import Derived.Test.YtfocmnjkoominaaDoorEqualPairs
namespace Go.Proofs.YtfocmnjkoominaaDoor
open Go.ChangeShapes Go.WideShapes Go.ChangeAt Go.RowKit
open StateMath

theorem held_mark : Tryd.prog.stoodInHeld 24 = false := by kernel_rfl
theorem eql_mark (a0 a1 b0 b1 : Int) (a2 a3 b2 b3 : Bool) (w : World) (B : Bool) (hB : B = true ↔ (a0 = b0 ∧ a1 = b1 ∧ a2 = b2 ∧ a3 = b3)) :
    (binOp .eql 24 (.agg #[.int .i64 a0, .int .i64 a1, .bool a2, .bool a3]) (.agg #[.int .i64 b0, .int .i64 b1, .bool b2, .bool b3])).run Tryd.prog w = .ok (.bool B) w := by
  rw [run_eql_struct, run_equalIn_agg w 9999 24 _ _ (by simp [Program.fieldsOf, Tryd.underlying24]) held_mark]
  simp [go_sem, Program.fieldsOf, Tryd.underlying24, Op.eqFields]
  by_cases h : a0 = b0 ∧ a1 = b1 ∧ a2 = b2 ∧ a3 = b3
  · obtain rfl : B = true := hB.2 h
    obtain ⟨rfl, rfl, rfl, rfl⟩ := h
    simp
  · obtain rfl : B = false := by
      cases B
      · rfl
      · exact absurd (hB.1 rfl) h
    by_cases h0 : a0 = b0 <;> by_cases h1 : a1 = b1 <;> by_cases h2 : a2 = b2 <;> by_cases h3 : a3 = b3 <;> simp [h0, h1, h2, h3] at h ⊢
theorem neq_mark (a0 a1 b0 b1 : Int) (a2 a3 b2 b3 : Bool) (w : World) (B : Bool) (hB : B = false ↔ (a0 = b0 ∧ a1 = b1 ∧ a2 = b2 ∧ a3 = b3)) :
    (binOp .neq 24 (.agg #[.int .i64 a0, .int .i64 a1, .bool a2, .bool a3]) (.agg #[.int .i64 b0, .int .i64 b1, .bool b2, .bool b3])).run Tryd.prog w = .ok (.bool B) w := by
  rw [run_neq_struct, run_equalIn_agg w 9999 24 _ _ (by simp [Program.fieldsOf, Tryd.underlying24]) held_mark]
  simp [go_sem, Program.fieldsOf, Tryd.underlying24, Op.eqFields]
  by_cases h : a0 = b0 ∧ a1 = b1 ∧ a2 = b2 ∧ a3 = b3
  · obtain rfl : B = false := hB.2 h
    obtain ⟨rfl, rfl, rfl, rfl⟩ := h
    simp
  · obtain rfl : B = true := by
      cases B
      · exact absurd (hB.1 rfl) h
      · rfl
    by_cases h0 : a0 = b0 <;> by_cases h1 : a1 = b1 <;> by_cases h2 : a2 = b2 <;> by_cases h3 : a3 = b3 <;> simp [h0, h1, h2, h3] at h ⊢
end Go.Proofs.YtfocmnjkoominaaDoor
