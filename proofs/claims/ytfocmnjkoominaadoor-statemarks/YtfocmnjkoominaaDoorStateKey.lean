/- Contracts of the program's state.Key and state.isValue. -/
import Derived.Test.YtfocmnjkoominaaDoorStateMath
import Derived.Test.YtfocmnjkoominaaDoorRefGateMath
import Derived.Deep.LoopGhost
namespace Go.Proofs.YtfocmnjkoominaaDoor
open Go.ChangeShapes Go.WideShapes Go.ChangeAt Go.RowKit
open StateMath

theorem key_walk : ∀ i : Fin 256, (decide ((97 : Int) ≤ (UInt8.ofNat i.val).toNat) && decide (((UInt8.ofNat i.val).toNat : Int) ≤ 122) || decide ((48 : Int) ≤ (UInt8.ofNat i.val).toNat) && decide (((UInt8.ofNat i.val).toNat : Int) ≤ 57)) = keyByte (UInt8.ofNat i.val) := by decide +kernel
theorem key_walk' (c : UInt8) : (decide ((97 : Int) ≤ c.toNat) && decide ((c.toNat : Int) ≤ 122) || decide ((48 : Int) ≤ c.toNat) && decide ((c.toNat : Int) ≤ 57)) = keyByte c :=
  all_bytes (p := fun c => (decide ((97 : Int) ≤ c.toNat) && decide ((c.toNat : Int) ≤ 122) || decide ((48 : Int) ≤ c.toNat) && decide ((c.toNat : Int) ≤ 57)) = keyByte c) key_walk c
theorem val_walk : ∀ i : Fin 256, valByte (UInt8.ofNat i.val) = (!(((UInt8.ofNat i.val).toNat : Int) == 44) && (!(((UInt8.ofNat i.val).toNat : Int) == 61) && (!(((UInt8.ofNat i.val).toNat : Int) == 59) && (decide ((33 : Int) ≤ (UInt8.ofNat i.val).toNat) && decide (((UInt8.ofNat i.val).toNat : Int) ≤ 126))))) := by decide +kernel
theorem val_walk' (c : UInt8) : valByte c = (!((c.toNat : Int) == 44) && (!((c.toNat : Int) == 61) && (!((c.toNat : Int) == 59) && (decide ((33 : Int) ≤ c.toNat) && decide ((c.toNat : Int) ≤ 126))))) :=
  all_bytes (p := fun c => valByte c = (!((c.toNat : Int) == 44) && (!((c.toNat : Int) == 61) && (!((c.toNat : Int) == 59) && (decide ((33 : Int) ≤ c.toNat) && decide ((c.toNat : Int) ≤ 126)))))) val_walk c

set_option maxHeartbeats 400000 in
theorem isKeyByte_any (c : UInt8) (w : World) :
    Calls Tryd.prog 34 #[.int .u8 c.toNat] w fun e w' => e = .returned (.bool (keyByte c)) ∧ w = w' := by
  have hk := Lib.hid (key_walk' c)
  have hc := c.toNat_lt
  generalize hn : c.toNat = n at *
  clear hn
  go_enter Tryd.func34, Tryd.ntmps34
  go_wp2
  all_goals go_ret
  all_goals refine ⟨ret_bool ?_, rfl⟩
  all_goals rw [← hk.out]
  all_goals first | rfl | (simp [*]; done) | (rw [Bool.eq_iff_iff]; simp; omega)
set_option maxHeartbeats 400000 in
theorem isValueByte_any (c : UInt8) (w : World) :
    Calls Tryd.prog 35 #[.int .u8 c.toNat] w fun e w' => e = .returned (.bool (valByte c)) ∧ w = w' := by
  have hk := Lib.hid (val_walk' c)
  have hc := c.toNat_lt
  generalize hn : c.toNat = n at *
  clear hn
  go_enter Tryd.func35, Tryd.ntmps35
  go_wp2
  all_goals go_ret
  all_goals refine ⟨ret_bool ?_, rfl⟩
  all_goals rw [hk.out]
  all_goals first | rfl | (simp [*]; done) | (rw [Bool.eq_iff_iff]; simp; omega)

set_option maxRecDepth 100000 in
set_option maxHeartbeats 1000000 in
theorem key_any (s : ByteArray) (w : World) (hs : s.size ≤ maxLen) :
    Calls Tryd.prog 25 #[.string s] w fun e w' => e = .returned (.bool (keyOk s.data.toList)) ∧ w = w' := by
  unfold maxLen at hs
  by_cases h0 : s.size = 0 ∨ 16 < s.size
  · have HK : Hid (keyOk s.data.toList = false) := by
      show _ = _
      unfold keyOk
      rw [len_list]
      rcases h0 with h | h <;> simp [h]
    by_cases h1 : s.size = 0
    · have t : ((s.size : Int) == 0) = true := by rw [h1]; rfl
      clear h0 h1
      go_enter Tryd.func25, Tryd.ntmps25
      go_wp2
      go_ret
      exact ⟨ret_bool HK.out.symm, rfl⟩
    · have t : ((s.size : Int) == 0) = false := by rw [beq_eq_false_iff_ne]; omega
      have t1 : 16 < s.size := by omega
      clear h0 h1
      go_enter Tryd.func25, Tryd.ntmps25
      go_wp2
      go_ret
      exact ⟨ret_bool HK.out.symm, rfl⟩
  · have HK : Hid (keyOk s.data.toList = s.data.toList.all keyByte) := by
      show _ = _
      unfold keyOk
      rw [len_list, show decide (1 ≤ s.size) = true from by simp; omega, show decide (s.size ≤ 16) = true from by simp; omega]
      simp
    have t : ((s.size : Int) == 0) = false := by rw [beq_eq_false_iff_ne]; omega
    have t1 : s.size ≤ 16 := by omega
    clear h0
    go_enter Tryd.func25, Tryd.ntmps25
    go_wp2
    go_loopg [3] s.size (fun g i wr => wr = w ∧ ∃ k : Nat, k + g = s.size ∧ i = .int .i64 k ∧ Hid ((s.data.toList.take k).all keyByte = true))
    case atStart => exact ⟨rfl, 0, by omega, rfl, rfl⟩
    case round =>
      obtain ⟨rfl, k, hk0, rfl, hxt⟩ := hrel
      have HJ := Lib.hid hk0
      have hk : k ≤ s.size := by omega
      clear hk0
      by_cases hlt : k < s.size
      · have HI := Lib.hid (isKeyByte_any s[k] wr)
        cases hx : keyByte s[k]
        · have HB : Hid (s.data.toList.all keyByte = false) := all_no s k hlt hx
          rw [hx] at HI
          clear hx
          go_wp2_with fail
          refine HI.out.mono ?_
          rintro e w' ⟨rfl, rfl⟩
          go_wp2
          go_ret
          exact ⟨ret_bool (by rw [HK.out, HB.out]), rfl⟩
        · have HA : Hid ((s.data.toList.take (k + 1)).all keyByte = true) := by show _ = _; rw [take_all s k hlt, hxt.out, hx]; rfl
          rw [hx] at HI
          clear hx
          go_wp2_with fail
          refine HI.out.mono ?_
          rintro e w' ⟨rfl, rfl⟩
          go_wp2
          go_roundg (s.size - (k + 1))
          case measure => have := HJ.out; omega
          case rel => exact ⟨rfl, k + 1, by omega, by go_num, HA⟩
      · have HX : Hid (s.data.toList.all keyByte = true) := by show _ = _; rw [← take_full s k hlt]; exact hxt.out
        clear hxt
        go_wp2
        go_ret
        exact ⟨ret_bool (by rw [HK.out, HX.out]), rfl⟩
set_option maxRecDepth 100000 in
set_option maxHeartbeats 1000000 in
theorem isValue_any (s : ByteArray) (w : World) (hs : s.size ≤ maxLen) :
    Calls Tryd.prog 26 #[.string s] w fun e w' => e = .returned (.bool (valOk s.data.toList)) ∧ w = w' := by
  unfold maxLen at hs
  go_enter Tryd.func26, Tryd.ntmps26
  go_wp2
  go_loopg [3] s.size (fun g i wr => wr = w ∧ ∃ k : Nat, k + g = s.size ∧ i = .int .i64 k ∧ Hid ((s.data.toList.take k).all valByte = true))
  case atStart => exact ⟨rfl, 0, by omega, rfl, rfl⟩
  case round =>
    obtain ⟨rfl, k, hk0, rfl, hxt⟩ := hrel
    have HJ := Lib.hid hk0
    have hk : k ≤ s.size := by omega
    clear hk0
    by_cases hlt : k < s.size
    · have HI := Lib.hid (isValueByte_any s[k] wr)
      cases hx : valByte s[k]
      · have HB : Hid (valOk s.data.toList = false) := by
          show _ = _
          unfold valOk
          rw [all_no s k hlt hx, Bool.and_false]
        rw [hx] at HI
        clear hx
        go_wp2_with fail
        refine HI.out.mono ?_
        rintro e w' ⟨rfl, rfl⟩
        go_wp2
        go_ret
        exact ⟨ret_bool HB.out.symm, rfl⟩
      · have HA : Hid ((s.data.toList.take (k + 1)).all valByte = true) := by show _ = _; rw [take_all s k hlt, hxt.out, hx]; rfl
        rw [hx] at HI
        clear hx
        go_wp2_with fail
        refine HI.out.mono ?_
        rintro e w' ⟨rfl, rfl⟩
        go_wp2
        go_roundg (s.size - (k + 1))
        case measure => have := HJ.out; omega
        case rel => exact ⟨rfl, k + 1, by omega, by go_num, HA⟩
    · have HX : Hid (valOk s.data.toList = decide (0 < s.size)) := by
        show _ = _
        unfold valOk
        rw [show s.data.toList.all valByte = true from by rw [← take_full s k hlt]; exact hxt.out, Bool.and_true]
        rw [show s.data.toList.isEmpty = decide (s.data.toList.length = 0) from by cases s.data.toList <;> simp, len_list]
        rcases Nat.eq_zero_or_pos s.size with h | h
        · rw [h]; rfl
        · rw [decide_eq_false (by omega), decide_eq_true h]; rfl
      clear hxt
      go_wp2
      go_ret
      exact ⟨ret_bool (by rw [HX.out]), rfl⟩
end Go.Proofs.YtfocmnjkoominaaDoor
