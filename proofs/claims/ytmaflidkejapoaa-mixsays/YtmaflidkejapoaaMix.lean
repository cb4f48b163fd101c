/- Contracts of package mix, and of the small helpers of the laws: what each call returns, for all arguments; none of them changes the world. -/
import Derived.Test.YtmaflidkejapoaaRows
import Derived.Test.YtmaflidkejapoaaMixMath
import Derived.WalkKit
import Derived.ProofKit
import Derived.Below
import Derived.OpenShut
import Derived.WalkLawsBesides
import Derived.Outline
namespace Go.Proofs.Ytmaflidkejapoaa
open Go.ChangeShapes Go.WideShapes Go.ChangeAt Go.RowKit

theorem below_on {w a b : World} (h : Below w.heap.size w a) (k : Below a.heap.size a b) : Below w.heap.size w b := h.trans (k.mono h.size)
theorem ret_int {k : IntKind} {a b : Int} (h : a = b) : Ending.returned (.int k a) = .returned (.int k b) := by rw [h]

set_option maxHeartbeats 400000 in
theorem mix_any (x : Nat) (h : x < MixMath.M) (w : World) :
    Calls Try.prog 11 #[.int .u64 x] w fun e w' => e = .returned (.int .u64 (MixMath.mixN x : Nat)) ∧ w = w' := by
  have hx : (x : Int) < 18446744073709551616 := by have : x < 18446744073709551616 := h; omega
  go_enter Try.func11, Try.ntmps11
  go_wp2
  go_ret
  exact ⟨ret_int (MixMath.mix_walk x h), rfl⟩

set_option maxHeartbeats 400000 in
theorem unmix_any (x : Nat) (h : x < MixMath.M) (w : World) :
    Calls Try.prog 13 #[.int .u64 x] w fun e w' => e = .returned (.int .u64 (MixMath.unmixN x : Nat)) ∧ w = w' := by
  have hx : (x : Int) < 18446744073709551616 := by have : x < 18446744073709551616 := h; omega
  go_enter Try.func13, Try.ntmps13
  go_wp2
  go_ret
  exact ⟨ret_int (MixMath.unmix_walk x h), rfl⟩

def stepN (x : Nat) : Nat := (x + 11400714819323198485) % MixMath.M
theorem stepN_lt (x : Nat) : stepN x < MixMath.M := Nat.mod_lt _ (by decide)
theorem step_walk (x : Nat) : IntKind.u64.wrap ((x : Int) + 11400714819323198485) = ((stepN x : Nat) : Int) := by
  rw [IntKind.wrap_u64, stepN, Int.natCast_emod, Int.natCast_add]; rfl

set_option maxHeartbeats 400000 in
theorem next_any (x : Nat) (h : x < MixMath.M) (w : World) :
    Calls Try.prog 9 #[.int .u64 x] w fun e w' => e = .returned (.tuple #[.int .u64 (stepN x : Nat), .int .u64 (MixMath.mixN (stepN x) : Nat)]) ∧ w = w' := by
  have hx : (x : Int) < 18446744073709551616 := by have : x < 18446744073709551616 := h; omega
  go_enter Try.func9, Try.ntmps9
  go_wp2_with fail
  rw [step_walk]
  refine (mix_any _ (stepN_lt _) _).mono ?_
  rintro e w' ⟨rfl, rfl⟩
  go_wp2
  go_ret2
  exact ⟨rfl, rfl⟩

theorem wf_u64 {a : Int} (h : (Lit.int .u64 a).wf = true) : ∃ x : Nat, a = (x : Int) ∧ x < MixMath.M := by
  have b := bounds_u64 h
  refine ⟨a.toNat, by omega, ?_⟩
  show a.toNat < 18446744073709551616
  omega
theorem wf_i64 {a : Int} (h : (Lit.int .i64 a).wf = true) : -9223372036854775808 ≤ a ∧ a ≤ 9223372036854775807 := by
  have b := bounds_i64 h
  omega

/-! ### the same over integers: an argument may be spelt as it likes -/
def mixI (a : Int) : Int := (MixMath.mixN a.toNat : Nat)
def unmixI (a : Int) : Int := (MixMath.unmixN a.toNat : Nat)
def stepI (a : Int) : Int := (stepN a.toNat : Nat)
theorem mixI_bd (a : Int) : 0 ≤ mixI a ∧ mixI a < 18446744073709551616 := by
  have h : MixMath.mixN a.toNat < 18446744073709551616 := MixMath.mixN_lt _
  unfold mixI; omega
theorem unmixI_bd (a : Int) : 0 ≤ unmixI a ∧ unmixI a < 18446744073709551616 := by
  have h : MixMath.unmixN a.toNat < 18446744073709551616 := MixMath.unmixN_lt _
  unfold unmixI; omega
theorem stepI_bd (a : Int) : 0 ≤ stepI a ∧ stepI a < 18446744073709551616 := by
  have h : stepN a.toNat < 18446744073709551616 := stepN_lt _
  unfold stepI; omega
theorem below_M {a : Int} (h0 : 0 ≤ a) (h1 : a < 18446744073709551616) : a.toNat < MixMath.M := by
  show a.toNat < 18446744073709551616
  omega
theorem mix_int (a : Int) (w : World) (h0 : 0 ≤ a) (h1 : a < 18446744073709551616) :
    Calls Try.prog 11 #[.int .u64 a] w fun e w' => e = .returned (.int .u64 (mixI a)) ∧ w = w' := by
  have h := mix_any a.toNat (below_M h0 h1) w
  rw [Int.toNat_of_nonneg h0] at h
  exact h
theorem unmix_int (a : Int) (w : World) (h0 : 0 ≤ a) (h1 : a < 18446744073709551616) :
    Calls Try.prog 13 #[.int .u64 a] w fun e w' => e = .returned (.int .u64 (unmixI a)) ∧ w = w' := by
  have h := unmix_any a.toNat (below_M h0 h1) w
  rw [Int.toNat_of_nonneg h0] at h
  exact h
theorem next_int (a : Int) (w : World) (h0 : 0 ≤ a) (h1 : a < 18446744073709551616) :
    Calls Try.prog 9 #[.int .u64 a] w fun e w' => e = .returned (.tuple #[.int .u64 (stepI a), .int .u64 (mixI (stepI a))]) ∧ w = w' := by
  have h := next_any a.toNat (below_M h0 h1) w
  have e : mixI (stepI a) = (MixMath.mixN (stepN a.toNat) : Nat) := by unfold mixI stepI; rw [Int.toNat_natCast]
  have e' : stepI a = (stepN a.toNat : Nat) := rfl
  rw [Int.toNat_of_nonneg h0] at h
  rw [e, e']
  exact h
theorem unmixI_mixI (a : Int) (h0 : 0 ≤ a) (h1 : a < 18446744073709551616) : unmixI (mixI a) = a := by
  unfold unmixI mixI
  rw [Int.toNat_natCast, MixMath.unmix_mix _ (below_M h0 h1), Int.toNat_of_nonneg h0]
theorem mixI_unmixI (a : Int) (h0 : 0 ≤ a) (h1 : a < 18446744073709551616) : mixI (unmixI a) = a := by
  unfold unmixI mixI
  rw [Int.toNat_natCast, MixMath.mix_unmix _ (below_M h0 h1), Int.toNat_of_nonneg h0]
theorem mixI_inj (a b : Int) (ha : 0 ≤ a ∧ a < 18446744073709551616) (hb : 0 ≤ b ∧ b < 18446744073709551616) (h : mixI a = mixI b) : a = b := by
  rw [← unmixI_mixI a ha.1 ha.2, ← unmixI_mixI b hb.1 hb.2, h]

end Go.Proofs.Ytmaflidkejapoaa
