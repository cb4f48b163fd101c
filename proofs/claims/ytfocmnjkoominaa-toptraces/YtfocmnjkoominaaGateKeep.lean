/- Contracts of the program's gate.Keep and gate.Level. -/
import Derived.Test.YtfocmnjkoominaaRefGateMath
namespace Go.Proofs.Ytfocmnjkoominaa
open Go.ChangeShapes Go.WideShapes Go.ChangeAt Go.RowKit

set_option maxHeartbeats 400000 in
theorem inRange_yes (n : Int) (h0 : 0 ≤ n) (h1 : n < 72057594037927936) (w : World) :
    Calls Try.prog 65 #[.int .i64 n] w fun e w' => e = .returned (.bool true) ∧ w = w' := by
  go_enter Try.func65, Try.ntmps65
  go_wp2
  go_ret
  exact ⟨rfl, rfl⟩
set_option maxHeartbeats 400000 in
theorem inRange_no (n : Int) (h : n < 0 ∨ 72057594037927936 ≤ n) (w : World) :
    Calls Try.prog 65 #[.int .i64 n] w fun e w' => e = .returned (.bool false) ∧ w = w' := by
  by_cases h0 : n < 0
  · go_enter Try.func65, Try.ntmps65
    go_wp2
    go_ret
    exact ⟨rfl, rfl⟩
  · have h1 : 72057594037927936 ≤ n := by omega
    clear h
    go_enter Try.func65, Try.ntmps65
    go_wp2
    go_ret
    exact ⟨ret_bool (by simp; omega), rfl⟩

set_option maxHeartbeats 400000 in
theorem keep_ok (th r : Int) (h0 : 0 ≤ th) (h1 : th < 72057594037927936) (k0 : 0 ≤ r) (k1 : r < 72057594037927936) (w : World) :
    Calls Try.prog 50 #[.int .i64 th, .int .i64 r] w fun e w' => e = .returned (.tuple #[.bool (decide (th ≤ r)), .int .i64 0]) ∧ w = w' := by
  go_enter Try.func50, Try.ntmps50
  go_wp2_with fail
  refine (inRange_yes th h0 h1 _).mono ?_
  rintro e w' ⟨rfl, rfl⟩
  go_wp2_with fail
  refine (inRange_yes r k0 k1 _).mono ?_
  rintro e w' ⟨rfl, rfl⟩
  go_wp2
  go_ret2
  exact ⟨rfl, rfl⟩
set_option maxHeartbeats 400000 in
theorem keep_bad (th r : Int) (h : (th < 0 ∨ 72057594037927936 ≤ th) ∨ (r < 0 ∨ 72057594037927936 ≤ r)) (w : World) :
    Calls Try.prog 50 #[.int .i64 th, .int .i64 r] w fun e w' => e = .returned (.tuple #[.bool false, .int .i64 1]) ∧ w = w' := by
  by_cases h0 : th < 0 ∨ 72057594037927936 ≤ th
  · have H := Lib.hid h0
    clear h h0
    go_enter Try.func50, Try.ntmps50
    go_wp2_with fail
    refine (inRange_no th H.out _).mono ?_
    rintro e w' ⟨rfl, rfl⟩
    go_wp2
    go_ret2
    exact ⟨rfl, rfl⟩
  · have h1 : 0 ≤ th := by omega
    have h2 : th < 72057594037927936 := by omega
    have H := Lib.hid (show r < 0 ∨ 72057594037927936 ≤ r by omega)
    clear h h0
    go_enter Try.func50, Try.ntmps50
    go_wp2_with fail
    refine (inRange_yes th h1 h2 _).mono ?_
    rintro e w' ⟨rfl, rfl⟩
    go_wp2_with fail
    refine (inRange_no r H.out _).mono ?_
    rintro e w' ⟨rfl, rfl⟩
    go_wp2
    go_ret2
    exact ⟨rfl, rfl⟩

set_option maxRecDepth 100000 in
set_option maxHeartbeats 400000 in
theorem level_ok (n : Nat) (hn : n ≤ 20) (w : World) :
    Calls Try.prog 49 #[.int .i64 n] w fun e w' => e = .returned (.tuple #[.int .i64 ((two56 - keptAt n : Nat) : Int), .int .i64 0]) ∧ w = w' := by
  go_enter Try.func49, Try.ntmps49
  go_wp2
  go_ret2
  exact ⟨ret_int2 (level_walk n hn), rfl⟩
theorem level_int (n : Int) (h0 : 0 ≤ n) (hn : n ≤ 20) (w : World) :
    Calls Try.prog 49 #[.int .i64 n] w fun e w' => e = .returned (.tuple #[.int .i64 ((two56 - keptAt n.toNat : Nat) : Int), .int .i64 0]) ∧ w = w' := by
  have h := level_ok n.toNat (by omega) w
  rw [Int.toNat_of_nonneg h0] at h
  exact h
set_option maxHeartbeats 400000 in
theorem level_bad (n : Int) (h : n < 0 ∨ 20 < n) (w : World) :
    Calls Try.prog 49 #[.int .i64 n] w fun e w' => e = .returned (.tuple #[.int .i64 0, .int .i64 1]) ∧ w = w' := by
  by_cases h0 : n < 0
  · go_enter Try.func49, Try.ntmps49
    go_wp2
    go_ret2
    exact ⟨rfl, rfl⟩
  · have h1 : 20 < n := by omega
    clear h
    go_enter Try.func49, Try.ntmps49
    go_wp2
    go_ret2
    exact ⟨rfl, rfl⟩

end Go.Proofs.Ytfocmnjkoominaa
