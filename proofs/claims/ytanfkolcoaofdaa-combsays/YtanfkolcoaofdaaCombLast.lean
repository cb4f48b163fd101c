/- Contract of the program's comb.last. -/
import Derived.Test.YtanfkolcoaofdaaCombWays
namespace Go.Proofs.Ytanfkolcoaofdaa
open Go.ChangeShapes Go.WideShapes Go.ChangeAt Go.RowKit
open Binom

set_option maxRecDepth 100000 in
set_option maxHeartbeats 1000000 in
theorem last_any (top k r : Nat) (ht : 1 ≤ top) (ht2 : top ≤ 30) (hk : k < 30) (hr : r ≤ 1073741824) (w : World) :
    Calls Try.prog 48 #[.int .i64 (top : Nat), .int .i64 ((k : Int) + 1), .int .i64 r] w fun e w' => e = .returned (.int .i64 (lastOf (k + 1) r (top - 1) : Nat)) ∧ w = w' := by
  have C := Lib.hid (fun m (hm : m ≤ 30) => choose_any m (k + 1) hm (by omega))
  go_enter Try.func48, Try.ntmps48
  go_wp2
  go_loopg [7] (top - 1) (fun gg z wr => ∃ g : Nat, wr = w ∧ Hid (g = gg) ∧ g ≤ top - 1 ∧ z = .int .i64 (g : Nat) ∧ Hid (lastOf (k + 1) r g = lastOf (k + 1) r (top - 1)))
  case atStart => exact ⟨top - 1, rfl, Lib.hid rfl, Nat.le_refl _, by go_num, Lib.hid rfl⟩
  case round =>
    obtain ⟨g, rfl, HM, hg, rfl, HE⟩ := hrel
    have C1 := C.out g (by omega) wr
    rw [show ((k + 1 : Nat) : Int) = (k : Int) + 1 from by omega] at C1
    have C2 := Lib.hid C1
    clear C1
    by_cases hlt : r < binom g (k + 1)
    · have h0 : g ≠ 0 := by intro e; rw [e, zero_succ] at hlt; omega
      have HE2 : Hid (lastOf (k + 1) r (g - 1) = lastOf (k + 1) r (top - 1)) := by
        obtain ⟨m, rfl⟩ : ∃ m, g = m + 1 := ⟨g - 1, by omega⟩
        rw [lastOf_down hlt] at HE
        exact HE
      generalize binom g (k + 1) = b at *
      go_wp2_with fail
      refine C2.out.mono ?_
      rintro e w1 ⟨rfl, rfl⟩
      go_wp2
      go_roundg (g - 1)
      case measure => have := HM.out; omega
      case rel => exact ⟨g - 1, rfl, Lib.hid rfl, by omega, by go_num, HE2⟩
    · have HE2 : Hid (g = lastOf (k + 1) r (top - 1)) := by rw [← HE.out, lastOf_stay (by omega)]; exact Lib.hid rfl
      generalize binom g (k + 1) = b at *
      go_wp2_with fail
      refine C2.out.mono ?_
      rintro e w1 ⟨rfl, rfl⟩
      go_wp2
      go_ret
      exact ⟨ret_int (by rw [← HE2.out]), rfl⟩

end Go.Proofs.Ytanfkolcoaofdaa
