/- Contracts of the program's gate.Count. -/
import Derived.Test.YtanfkolcoaofdabDoorGateKeep
import Derived.Test.YtanfkolcoaofdabDoorDivAll
import Derived.Test.YtanfkolcoaofdabDoorMul64
namespace Go.Proofs.YtanfkolcoaofdabDoor
open Go.ChangeShapes Go.WideShapes Go.ChangeAt Go.RowKit

set_option maxRecDepth 100000 in
set_option maxHeartbeats 1000000 in
theorem count_ok (n th : Nat) (hn : n ≤ 1000000000000) (ht : th < 72057594037927936) (hc : manyOf n th ≤ 4611686018427387904) (w : World) :
    Calls Tryd.prog 16 #[.int .i64 n, .int .i64 th] w fun e w' => e = .returned (.tuple #[.int .i64 (manyOf n th : Nat), .int .i64 0]) ∧ Below w.heap.size w w' := by
  obtain ⟨hi, lo, e1, e2, C⟩ := mul64_parts n 72057594037927936 (by omega) (by omega) w
  rw [show ((72057594037927936 : Nat) : Int) = 72057594037927936 from rfl] at C
  have C := Lib.hid C
  have hm : manyOf n th = (hi * 18446744073709551616 + lo) / (72057594037927936 - th) := by
    unfold manyOf
    rw [Nat.mul_comm two56, two56_val, e1, Nat.mul_comm 18446744073709551616 hi]
  obtain ⟨reach, hr0⟩ : ∃ r, 72057594037927936 - th = r := ⟨_, rfl⟩
  have hr : (72057594037927936 : Int) - (th : Int) = (reach : Int) := by omega
  have hr1 : reach ≤ 72057594037927936 := by omega
  have hr2 : 0 < reach := by omega
  rw [hr0] at hm
  have hhi : hi < 18446744073709551616 := by omega
  have h1 : manyOf n th < 18446744073709551616 ↔ hi < reach := by
    rw [hm, Nat.div_lt_iff_lt_mul hr2]
    omega
  have HM := Lib.hid hm
  clear hr0 hm e1
  have t1 : Hid (0 ≤ (th : Int) ∧ (th : Int) < 72057594037927936) := Lib.hid (by omega)
  clear ht
  have h2 : hi < reach := h1.1 (by omega)
  have D := Lib.hid (div64_any hi lo reach h2 (by omega) e2)
  clear h1
  go_enter Tryd.func16, Tryd.ntmps16
  go_wp2_with fail
  refine (inRange_yes th t1.out.1 t1.out.2 _).mono ?_
  rintro e w1 ⟨rfl, rfl⟩
  go_wp2_with fail
  refine C.out.mono ?_
  rintro e w1 ⟨rfl, rfl⟩
  go_wp2_with fail
  refine (D.out _).mono ?_
  rintro e w1 ⟨rfl, hb⟩
  rw [← HM.out]
  clear HM D
  generalize hg : manyOf n th = m at *
  have HG := Lib.hid hg
  clear hg
  go_wp2
  go_ret2
  exact ⟨ret_int2 (by rw [HG.out]), hb⟩
set_option maxRecDepth 100000 in
set_option maxHeartbeats 1000000 in
theorem count_large (n th : Nat) (hn : n ≤ 1000000000000) (ht : th < 72057594037927936) (hc : 4611686018427387904 < manyOf n th) (w : World) :
    Calls Tryd.prog 16 #[.int .i64 n, .int .i64 th] w fun e w' => e = .returned (.tuple #[.int .i64 0, .int .i64 2]) ∧ Below w.heap.size w w' := by
  obtain ⟨hi, lo, e1, e2, C⟩ := mul64_parts n 72057594037927936 (by omega) (by omega) w
  rw [show ((72057594037927936 : Nat) : Int) = 72057594037927936 from rfl] at C
  have C := Lib.hid C
  have hm : manyOf n th = (hi * 18446744073709551616 + lo) / (72057594037927936 - th) := by
    unfold manyOf
    rw [Nat.mul_comm two56, two56_val, e1, Nat.mul_comm 18446744073709551616 hi]
  obtain ⟨reach, hr0⟩ : ∃ r, 72057594037927936 - th = r := ⟨_, rfl⟩
  have hr : (72057594037927936 : Int) - (th : Int) = (reach : Int) := by omega
  have hr1 : reach ≤ 72057594037927936 := by omega
  have hr2 : 0 < reach := by omega
  rw [hr0] at hm
  have hhi : hi < 18446744073709551616 := by omega
  have h1 : manyOf n th < 18446744073709551616 ↔ hi < reach := by
    rw [hm, Nat.div_lt_iff_lt_mul hr2]
    omega
  have HM := Lib.hid hm
  clear hr0 hm e1
  have t1 : Hid (0 ≤ (th : Int) ∧ (th : Int) < 72057594037927936) := Lib.hid (by omega)
  clear ht
  by_cases h2 : hi < reach
  · have D := Lib.hid (div64_any hi lo reach h2 (by omega) e2)
    have h3 : manyOf n th < 18446744073709551616 := h1.2 h2
    clear h1
    go_enter Tryd.func16, Tryd.ntmps16
    go_wp2_with fail
    refine (inRange_yes th t1.out.1 t1.out.2 _).mono ?_
    rintro e w1 ⟨rfl, rfl⟩
    go_wp2_with fail
    refine C.out.mono ?_
    rintro e w1 ⟨rfl, rfl⟩
    go_wp2_with fail
    refine (D.out _).mono ?_
    rintro e w1 ⟨rfl, hb⟩
    rw [← HM.out]
    clear HM D
    generalize manyOf n th = m at *
    go_wp2
    go_ret2
    exact ⟨rfl, hb⟩
  · have h3 : reach ≤ hi := by omega
    clear h1 h2 HM hc
    go_enter Tryd.func16, Tryd.ntmps16
    go_wp2_with fail
    refine (inRange_yes th t1.out.1 t1.out.2 _).mono ?_
    rintro e w1 ⟨rfl, rfl⟩
    go_wp2_with fail
    refine C.out.mono ?_
    rintro e w1 ⟨rfl, rfl⟩
    go_wp2
    go_ret2
    exact ⟨rfl, Below.refl _ _⟩
set_option maxHeartbeats 400000 in
theorem count_bad (n th : Int) (h : (n < 0 ∨ 1000000000000 < n) ∨ (th < 0 ∨ 72057594037927936 ≤ th)) (w : World) :
    Calls Tryd.prog 16 #[.int .i64 n, .int .i64 th] w fun e w' => e = .returned (.tuple #[.int .i64 0, .int .i64 1]) ∧ w = w' := by
  by_cases h1 : n < 0
  · clear h
    go_enter Tryd.func16, Tryd.ntmps16
    go_wp2
    go_ret2
    exact ⟨rfl, rfl⟩
  · by_cases h2 : 1000000000000 < n
    · clear h
      go_enter Tryd.func16, Tryd.ntmps16
      go_wp2
      go_ret2
      exact ⟨rfl, rfl⟩
    · have H := Lib.hid (show th < 0 ∨ 72057594037927936 ≤ th by omega)
      clear h
      go_enter Tryd.func16, Tryd.ntmps16
      go_wp2_with fail
      refine (inRange_no th H.out _).mono ?_
      rintro e w1 ⟨rfl, rfl⟩
      go_wp2
      go_ret2
      exact ⟨rfl, rfl⟩

end Go.Proofs.YtanfkolcoaofdabDoor
