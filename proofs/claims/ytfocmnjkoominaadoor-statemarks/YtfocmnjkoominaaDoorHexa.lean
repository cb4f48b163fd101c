/- Contracts of package hexa. -/
import Derived.Test.YtfocmnjkoominaaDoorBase
import Derived.Test.YtfocmnjkoominaaDoorHexaMath
import Derived.Lib.Hide
import Derived.Lib.SlBytesRow
namespace Go.Proofs.YtfocmnjkoominaaDoor
open Go.ChangeShapes Go.WideShapes Go.ChangeAt Go.RowKit

/-- a text as the walk holds it -/
def rvB (n : Nat) : ByteArray := ⟨(HexaMath.rv n).toArray⟩
def thB (n : Nat) : ByteArray := (rvB n).extract 0 (HexaMath.cut (rvB n) 14)
theorem thB_eq (n : Nat) : thB n = (rvB n).extract 0 (HexaMath.cut (rvB n) 14) := rfl
theorem rv_size (n : Nat) : (ByteArray.mk (HexaMath.rv n).toArray).size = 14 := by
  show (HexaMath.rv n).toArray.size = 14
  rw [List.size_toArray, HexaMath.rv_length]
theorem rv_bytes (n : Nat) (w : World) (t : TypeId) : Lib.Bytes (w.alloc (.cells (HexaMath.cellsAt n 0) t)) w.heap.size 0 ⟨(HexaMath.rv n).toArray⟩ := by
  intro i hi
  have hi' : i < 14 := by rw [rv_size] at hi; exact hi
  rw [World.cell?_alloc_at _ _ _ _ rfl, Nat.zero_add, HexaMath.cellsAt_get n 0 i hi', if_pos (Nat.zero_le _)]
  have e : (HexaMath.rv n)[i]'(by rw [HexaMath.rv_length]; exact hi') = HexaMath.at14 n i := by
    have := HexaMath.rv_get n i hi'
    rw [List.getElem?_eq_getElem (by rw [HexaMath.rv_length]; exact hi')] at this
    exact Option.some.inj this
  rw [← e]
  rfl

set_option maxHeartbeats 400000 in
theorem rv_small (n : Nat) (w : World) (hn : n < 72057594037927936) :
    Calls Tryd.prog 29 #[.int .i64 n] w fun e w' => e = .returned (.tuple #[.string (rvB n), .int .i64 0]) ∧ Below w.heap.size w w' := by
  have t0 : decide ((n : Int) < 0) = false := by simp
  have t1 : decide (72057594037927936 ≤ (n : Int)) = false := by simp; omega
  go_enter Tryd.func29, Tryd.ntmps29
  go_wp2
  rw [← HexaMath.cellsAt_start n]
  go_loopw [0, 5] (fun x i wr => ∃ j : Nat, j ≤ 14 ∧ x = .int .i64 (n / 16 ^ (14 - j) : Nat) ∧ i = .int .i64 ((j : Int) - 1) ∧ wr = w.alloc (.cells (HexaMath.cellsAt n j) 57)) (fun _ i _ => (intOf i + 1).toNat)
  case atStart => exact ⟨14, Nat.le_refl _, by simp, rfl, rfl⟩
  case round =>
    obtain ⟨j, hj, rfl, rfl, rfl⟩ := hrel
    rcases j with _ | j
    · have hconv := Lib.run_convert_whole (P := Tryd.prog) (w.alloc (.cells (HexaMath.cellsAt n 0) 57)) 40 5 9 Tryd.underlying40 Tryd.underlying5 Tryd.underlying9 w.heap.size 0 ⟨(HexaMath.rv n).toArray⟩ (rv_bytes n w _) 14
      rw [rv_size] at hconv
      go_wp2
      go_ret2
      exact ⟨rfl, (Below.refl _ _).alloc (Nat.le_refl _) _⟩
    · have hcell := HexaMath.cellsAt_get n (j + 1) j (by omega)
      rw [if_neg (by omega)] at hcell
      have HA := Lib.hid (HexaMath.cellsAt_set n j (by omega))
      have HN := Lib.hid (HexaMath.next_place n j (by omega))
      have hm : n / 16 ^ (14 - (j + 1)) < 72057594037927936 := Nat.lt_of_le_of_lt (Nat.div_le_self _ _) hn
      have HD := Lib.hid (HexaMath.dig_place n j (by omega))
      generalize n / 16 ^ (14 - (j + 1)) = m at *
      rw [show (((j + 1 : Nat) : Int) - 1) = (j : Int) from by omega]
      go_wp2
      go_roundw
      case rel => exact ⟨j, by omega, by rw [HN.out]; rfl, rfl, by rw [← HA.out, HD.out]; rfl⟩
      case measure => simp [intOf]

theorem rvB_size (n : Nat) : (rvB n).size = 14 := rv_size n
theorem rv_int (a : Int) (w : World) (h0 : 0 ≤ a) (h1 : a < 72057594037927936) :
    Calls Tryd.prog 29 #[.int .i64 a] w fun e w' => e = .returned (.tuple #[.string (rvB a.toNat), .int .i64 0]) ∧ Below w.heap.size w w' := by
  have h := rv_small a.toNat w (by omega)
  rw [Int.toNat_of_nonneg h0] at h
  exact h
set_option maxHeartbeats 400000 in
theorem rv_bad (a : Int) (w : World) (h : a < 0 ∨ 72057594037927936 ≤ a) :
    Calls Tryd.prog 29 #[.int .i64 a] w fun e w' => e = .returned (.tuple #[.string ⟨#[]⟩, .int .i64 1]) ∧ w = w' := by
  by_cases h0 : a < 0
  · go_enter Tryd.func29, Tryd.ntmps29
    go_wp2
    go_ret2
    exact ⟨rfl, rfl⟩
  · have h1 : 72057594037927936 ≤ a := by omega
    clear h
    go_enter Tryd.func29, Tryd.ntmps29
    go_wp2
    go_ret2
    exact ⟨rfl, rfl⟩

set_option maxHeartbeats 400000 in
theorem th_bad (a : Int) (w : World) (h : a < 0 ∨ 72057594037927936 ≤ a) :
    Calls Tryd.prog 28 #[.int .i64 a] w fun e w' => e = .returned (.tuple #[.string ⟨#[]⟩, .int .i64 1]) ∧ w = w' := by
  go_enter Tryd.func28, Tryd.ntmps28
  go_wp2_with fail
  refine (rv_bad a _ h).mono ?_
  rintro e w' ⟨rfl, rfl⟩
  go_wp2
  go_ret2
  exact ⟨rfl, rfl⟩

set_option maxHeartbeats 400000 in
theorem th_int (a : Int) (w : World) (h0 : 0 ≤ a) (h1 : a < 72057594037927936) :
    Calls Tryd.prog 28 #[.int .i64 a] w fun e w' => e = .returned (.tuple #[.string (thB a.toNat), .int .i64 0]) ∧ Below w.heap.size w w' := by
  go_enter Tryd.func28, Tryd.ntmps28
  go_wp2_with fail
  refine (rv_int a _ h0 h1).mono ?_
  rintro e w1 ⟨rfl, hb⟩
  have hsz := rvB_size a.toNat
  have HT := Lib.hid (thB_eq a.toNat)
  generalize rvB a.toNat = s at *
  go_wp2
  go_loop [6] (fun i => ∃ k : Nat, 1 ≤ k ∧ k ≤ 14 ∧ i = .int .i64 k ∧ HexaMath.cut s 14 = HexaMath.cut s k) (fun i => (intOf i).toNat)
  case atStart => exact ⟨14, by omega, by omega, rfl, rfl⟩
  case round =>
    obtain ⟨k, hk1, hk2, rfl, hcut⟩ := hrel
    have HC := Lib.hid hcut
    clear hcut
    go_wp2
    · have h2 : 1 < k := by have : 1 < (k : Int) := by assumption
                            omega
      go_round
      case rel => exact ⟨k - 1, by omega, by omega, by go_num, HC.out.trans (HexaMath.cut_zero s k h2 (by omega) (by assumption))⟩
      case measure => simp [intOf]; omega
    · have h2 : 1 < k := by have : 1 < (k : Int) := by assumption
                            omega
      have e : HexaMath.cut s k = k := HexaMath.cut_stop s k h2 (by omega) (by assumption)
      go_ret2
      exact ⟨by rw [HT.out, HC.out, e]; rfl, hb⟩
    · have e : HexaMath.cut s k = k := HexaMath.cut_one s k hk1 (by assumption)
      go_ret2
      exact ⟨by rw [HT.out, HC.out, e]; rfl, hb⟩

end Go.Proofs.YtfocmnjkoominaaDoor
