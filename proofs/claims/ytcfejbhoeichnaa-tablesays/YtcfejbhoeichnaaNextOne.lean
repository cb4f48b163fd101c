/- The contract of mix.Next. -/
import Derived.Test.YtcfejbhoeichnaaMixOne
namespace Go.Proofs.Ytcfejbhoeichnaa
open Go.ChangeShapes Go.WideShapes Go.ChangeAt Go.RowKit

def stepN (x : Nat) : Nat := (x + 11400714819323198485) % MixMath.M
theorem stepN_lt (x : Nat) : stepN x < MixMath.M := Nat.mod_lt _ (by decide)
theorem step_walk (x : Nat) : IntKind.u64.wrap ((x : Int) + 11400714819323198485) = ((stepN x : Nat) : Int) := by
  rw [IntKind.wrap_u64, stepN, Int.natCast_emod, Int.natCast_add]; rfl

set_option maxHeartbeats 400000 in
theorem next_any (x : Nat) (h : x < MixMath.M) (w : World) :
    Calls Try.prog 50 #[.int .u64 x] w fun e w' => e = .returned (.tuple #[.int .u64 (stepN x : Nat), .int .u64 (MixMath.mixN (stepN x) : Nat)]) ∧ w = w' := by
  have hx : (x : Int) < 18446744073709551616 := by have : x < 18446744073709551616 := h; omega
  go_enter Try.func50, Try.ntmps50
  go_wp2_with fail
  rw [step_walk]
  refine (mix_any _ (stepN_lt _) _).mono ?_
  rintro e w' ⟨rfl, rfl⟩
  go_wp2
  go_ret2
  exact ⟨rfl, rfl⟩

theorem wf_u64 {a : Int} (h : (Lit.int .u64 a).wf = true) : ∃ x : Nat, a = (x : Int) ∧ x < MixMath.M := by
  have b := bounds_u64 h
  refine ⟨a.toNat, by omega, ?_⟩
  show a.toNat < 18446744073709551616
  omega
end Go.Proofs.Ytcfejbhoeichnaa
