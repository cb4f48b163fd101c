/- Contracts of package hexa: reading. -/
import Derived.Test.YtfocmnjkoominaaDoorHexa
import Derived.Test.YtfocmnjkoominaaDoorHexaText
import Derived.Lib.Strings
namespace Go.Proofs.YtfocmnjkoominaaDoor
open Go.ChangeShapes Go.WideShapes Go.ChangeAt Go.RowKit

theorem isHex_cases (c : UInt8) (h : HexaMath.isHex c = true) : (48 ≤ (c.toNat : Int) ∧ (c.toNat : Int) ≤ 57 ∧ HexaMath.dval c = c.toNat - 48) ∨ (97 ≤ (c.toNat : Int) ∧ (c.toNat : Int) ≤ 102 ∧ HexaMath.dval c = c.toNat - 87) := by
  unfold HexaMath.isHex at h
  simp only [Bool.or_eq_true, Bool.and_eq_true, decide_eq_true_eq] at h
  unfold HexaMath.dval
  rcases h with h | h
  · left; rw [if_pos h.2]; omega
  · right; rw [if_neg (by omega)]; omega
theorem isHex_not (c : UInt8) (h : HexaMath.isHex c = false) : ((c.toNat : Int) < 48 ∨ 57 < (c.toNat : Int)) ∧ ((c.toNat : Int) < 97 ∨ 102 < (c.toNat : Int)) := by
  unfold HexaMath.isHex at h
  simp only [Bool.or_eq_false_iff, Bool.and_eq_false_iff, decide_eq_false_iff_not] at h
  omega

set_option maxHeartbeats 400000 in
theorem digit_yes (c : UInt8) (w : World) (h : HexaMath.isHex c = true) :
    Calls Tryd.prog 36 #[.int .u8 c.toNat] w fun e w' => e = .returned (.tuple #[.int .i64 (HexaMath.dval c : Nat), .bool true]) ∧ w = w' := by
  rcases isHex_cases c h with ⟨h1, h2, h3⟩ | ⟨h1, h2, h3⟩
  · have H3 : Hid (HexaMath.dval c = c.toNat - 48) := h3
    clear h3 h
    go_enter Tryd.func36, Tryd.ntmps36
    go_wp2
    go_ret2
    exact ⟨by rw [H3.out]; go_num, rfl⟩
  · have H3 : Hid (HexaMath.dval c = c.toNat - 87) := h3
    clear h3 h
    go_enter Tryd.func36, Tryd.ntmps36
    go_wp2
    go_ret2
    exact ⟨by rw [H3.out]; go_num, rfl⟩

set_option maxHeartbeats 400000 in
theorem digit_no (c : UInt8) (w : World) (h : HexaMath.isHex c = false) :
    Calls Tryd.prog 36 #[.int .u8 c.toNat] w fun e w' => e = .returned (.tuple #[.int .i64 0, .bool false]) ∧ w = w' := by
  obtain ⟨h1, h2⟩ := isHex_not c h
  clear h
  rcases h1 with h1 | h1 <;> rcases h2 with h2 | h2
  all_goals first | (exfalso; omega) | skip
  all_goals
    go_enter Tryd.func36, Tryd.ntmps36
    go_wp2
    go_ret2
    exact ⟨rfl, rfl⟩

theorem take_byte (s : ByteArray) (k : Nat) (h : k < s.size) : s.data.toList.take (k + 1) = s.data.toList.take k ++ [s[k]] := by
  rw [List.take_succ_eq_append_getElem (by simpa using h)]; rfl
theorem all_take (s : ByteArray) (k : Nat) (h : k < s.size) : (s.data.toList.take (k + 1)).all HexaMath.isHex = ((s.data.toList.take k).all HexaMath.isHex && HexaMath.isHex s[k]) := by
  rw [take_byte s k h, List.all_append]; simp
theorem num_take (s : ByteArray) (k : Nat) (h : k < s.size) : HexaMath.num (s.data.toList.take (k + 1)) = HexaMath.num (s.data.toList.take k) * 16 + HexaMath.dval s[k] := by
  rw [take_byte s k h, HexaMath.num_snoc]
theorem num_small (s : ByteArray) (k : Nat) (hk : k ≤ 13) (h : (s.data.toList.take k).all HexaMath.isHex = true) : HexaMath.num (s.data.toList.take k) < 4503599627370496 := by
  have h1 := HexaMath.num_lt _ h
  have h2 : (s.data.toList.take k).length ≤ 13 := Nat.le_trans (List.length_take_le _ _) hk
  exact Nat.lt_of_lt_of_le h1 (Nat.pow_le_pow_right (by decide) h2)

set_option maxHeartbeats 400000 in
theorem number_yes (s : ByteArray) (w : World) (hs : s.size ≤ 14) (h : s.data.toList.all HexaMath.isHex = true) :
    Calls Tryd.prog 27 #[.string s] w fun e w' => e = .returned (.tuple #[.int .i64 (HexaMath.num s.data.toList : Nat), .bool true]) ∧ w = w' := by
  have HH := Lib.hid h
  clear h
  go_enter Tryd.func27, Tryd.ntmps27
  go_wp2
  go_loop [4, 5, 6, 7] (fun n i _ _ => ∃ k : Nat, k ≤ s.size ∧ i = .int .i64 k ∧ n = .int .i64 (HexaMath.num (s.data.toList.take k) : Nat)) (fun _ i _ _ => s.size - (intOf i).toNat)
  case atStart => exact ⟨0, Nat.zero_le _, rfl, rfl⟩
  case round =>
    obtain ⟨k, hk, rfl, rfl⟩ := hrel
    by_cases hlt : k < s.size
    · have hx : HexaMath.isHex s[k] = true := by
        apply List.all_eq_true.1 HH.out
        exact List.getElem_mem (l := s.data.toList) (by simpa using hlt)
      have hxt : (s.data.toList.take k).all HexaMath.isHex = true := by
        rw [List.all_eq_true]
        exact fun c hc => List.all_eq_true.1 HH.out c (List.mem_of_mem_take hc)
      have hb := num_small s k (by omega) hxt
      have hd := (HexaMath.dig_dval _ hx).2
      have HX := Lib.hid hx
      have HN := Lib.hid (num_take s k hlt)
      clear hx hxt
      go_wp2_with fail
      refine (digit_yes _ _ HX.out).mono ?_
      rintro e w' ⟨rfl, rfl⟩
      go_wp2
      go_round
      case rel => exact ⟨k + 1, by omega, by go_num, by rw [HN.out]; go_num⟩
      case measure => simp [intOf]; omega
    · have hk' : s.data.toList.take k = s.data.toList := List.take_of_length_le (by simp; omega)
      rw [hk']
      clear hk'
      go_wp2
      go_ret2
      exact ⟨rfl, rfl⟩

set_option maxHeartbeats 400000 in
theorem number_no (s : ByteArray) (w : World) (hs : s.size ≤ 14) (h : s.data.toList.all HexaMath.isHex = false) :
    Calls Tryd.prog 27 #[.string s] w fun e w' => e = .returned (.tuple #[.int .i64 0, .bool false]) ∧ w = w' := by
  have HH := Lib.hid h
  clear h
  go_enter Tryd.func27, Tryd.ntmps27
  go_wp2
  go_loop [4, 5, 6, 7] (fun n i _ _ => ∃ k : Nat, k ≤ s.size ∧ i = .int .i64 k ∧ n = .int .i64 (HexaMath.num (s.data.toList.take k) : Nat) ∧ (s.data.toList.take k).all HexaMath.isHex = true) (fun _ i _ _ => s.size - (intOf i).toNat)
  case atStart => exact ⟨0, Nat.zero_le _, rfl, rfl, rfl⟩
  case round =>
    obtain ⟨k, hk, rfl, rfl, hxt⟩ := hrel
    by_cases hlt : k < s.size
    · have hb := num_small s k (by omega) hxt
      have HN := Lib.hid (num_take s k hlt)
      have HA := Lib.hid (all_take s k hlt)
      have HT := Lib.hid hxt
      clear hxt
      cases hx : HexaMath.isHex s[k]
      · have HX := Lib.hid hx
        clear hx
        go_wp2_with fail
        refine (digit_no _ _ HX.out).mono ?_
        rintro e w' ⟨rfl, rfl⟩
        go_wp2
        go_ret2
        exact ⟨rfl, rfl⟩
      · have hd := (HexaMath.dig_dval _ hx).2
        have HX := Lib.hid hx
        clear hx
        go_wp2_with fail
        refine (digit_yes _ _ HX.out).mono ?_
        rintro e w' ⟨rfl, rfl⟩
        go_wp2
        go_round
        case rel => exact ⟨k + 1, by omega, by go_num, by rw [HN.out]; go_num, by rw [HA.out, HT.out, HX.out]; rfl⟩
        case measure => simp [intOf]; omega
    · exfalso
      rw [List.take_of_length_le (by simp; omega), HH.out] at hxt
      cases hxt

theorem toList_length (s : ByteArray) : s.data.toList.length = s.size := by rw [Lib.size_eq]
set_option maxHeartbeats 400000 in
theorem parseRv_yes (s : ByteArray) (n : Nat) (w : World) (h : HexaMath.parseRv s.data.toList = some n) :
    Calls Tryd.prog 12 #[.string s] w fun e w' => e = .returned (.tuple #[.int .i64 n, .int .i64 0]) ∧ w = w' := by
  unfold HexaMath.parseRv at h
  by_cases c : s.data.toList.length = 14 ∧ s.data.toList.all HexaMath.isHex = true
  · rw [if_pos c] at h
    obtain rfl := Option.some.inj h
    obtain ⟨c1, c2⟩ := c
    rw [toList_length] at c1
    have C2 := Lib.hid c2
    clear c2 h
    have c3 : ((s.size : Int) != 14) = false := by rw [c1]; rfl
    have hs : s.size ≤ 14 := by omega
    go_enter Tryd.func12, Tryd.ntmps12
    go_wp2_with fail
    refine (number_yes _ _ hs C2.out).mono ?_
    rintro e w' ⟨rfl, rfl⟩
    go_wp2
    go_ret2
    exact ⟨rfl, rfl⟩
  · rw [if_neg c] at h; cases h
set_option maxHeartbeats 400000 in
theorem parseRv_no (s : ByteArray) (w : World) (h : HexaMath.parseRv s.data.toList = none) :
    Calls Tryd.prog 12 #[.string s] w fun e w' => e = .returned (.tuple #[.int .i64 0, .int .i64 3]) ∧ w = w' := by
  unfold HexaMath.parseRv at h
  by_cases c : s.data.toList.length = 14 ∧ s.data.toList.all HexaMath.isHex = true
  · rw [if_pos c] at h; cases h
  · by_cases c1 : s.size = 14
    · have c2 : s.data.toList.all HexaMath.isHex = false := by
        cases e : s.data.toList.all HexaMath.isHex
        · rfl
        · exact absurd ⟨by rw [toList_length]; exact c1, e⟩ c
      have C2 := Lib.hid c2
      clear c2 h c
      have c3 : ((s.size : Int) != 14) = false := by rw [c1]; rfl
      have hs : s.size ≤ 14 := by omega
      go_enter Tryd.func12, Tryd.ntmps12
      go_wp2_with fail
      refine (number_no _ _ hs C2.out).mono ?_
      rintro e w' ⟨rfl, rfl⟩
      go_wp2
      go_ret2
      exact ⟨rfl, rfl⟩
    · have c3 : ((s.size : Int) != 14) = true := by rw [bne_iff_ne]; omega
      clear c1 h c
      go_enter Tryd.func12, Tryd.ntmps12
      go_wp2
      go_ret2
      exact ⟨rfl, rfl⟩

theorem last_byte (s : ByteArray) (h : 0 < s.size) : s.data.toList.getLast? = some (s[s.size - 1]'(by omega)) := by
  rw [List.getLast?_eq_getElem?, toList_length, List.getElem?_eq_getElem (by rw [toList_length]; omega)]
  rfl
theorem last_eq (s : ByteArray) (h : 0 < s.size) (e : s.data.toList.getLast? = some 48) : (((s[s.size - 1]'(by omega)).toNat : Int) == 48) = true := by
  rw [last_byte s h] at e
  rw [Option.some.inj e]; rfl
theorem last_ne (s : ByteArray) (h : 0 < s.size) (e : ¬ s.data.toList.getLast? = some 48) : (((s[s.size - 1]'(by omega)).toNat : Int) == 48) = false := by
  rw [last_byte s h] at e
  rw [beq_eq_false_iff_ne]
  intro h'
  apply e
  have : (s[s.size - 1]'(by omega)).toNat = (48 : UInt8).toNat := by rw [show (48 : UInt8).toNat = 48 from rfl]; omega
  rw [UInt8.toNat_inj.1 this]

set_option maxHeartbeats 400000 in
theorem parseTh_zero (s : ByteArray) (w : World) (h : s.toList = [48]) :
    Calls Tryd.prog 11 #[.string s] w fun e w' => e = .returned (.tuple #[.int .i64 0, .int .i64 0]) ∧ w = w' := by
  have t0 : (s.toList == [48]) = true := by rw [h]; rfl
  clear h
  go_enter Tryd.func11, Tryd.ntmps11
  go_wp2
  go_ret2
  exact ⟨rfl, rfl⟩
set_option maxHeartbeats 400000 in
theorem parseTh_yes (s : ByteArray) (n : Nat) (w : World) (h : HexaMath.parseTh s.data.toList = some n) :
    Calls Tryd.prog 11 #[.string s] w fun e w' => e = .returned (.tuple #[.int .i64 n, .int .i64 0]) ∧ w = w' := by
  by_cases c0 : s.data.toList = [48]
  · unfold HexaMath.parseTh at h
    rw [if_pos c0] at h
    obtain rfl := Option.some.inj h
    exact parseTh_zero s w (by rw [Lib.toList_data]; exact c0)
  · have hlt := (HexaMath.th_parseTh _ _ h).1
    unfold HexaMath.parseTh at h
    rw [if_neg c0] at h
    by_cases c : s.data.toList.length = 0 ∨ 14 < s.data.toList.length ∨ s.data.toList.getLast? = some 48 ∨ s.data.toList.all HexaMath.isHex = false
    · rw [if_pos c] at h; cases h
    · rw [if_neg c] at h
      have hn := Option.some.inj h
      rw [toList_length] at c hn
      have c1 : 0 < s.size := Nat.pos_of_ne_zero fun e => c (.inl e)
      have c2 : s.size ≤ 14 := by
        apply Nat.le_of_not_lt
        exact fun e => c (.inr (.inl e))
      have t3 := last_ne s c1 fun e => c (.inr (.inr (.inl e)))
      have C4 : Hid (s.data.toList.all HexaMath.isHex = true) := by
        cases e : s.data.toList.all HexaMath.isHex
        · exact absurd (.inr (.inr (.inr e))) c
        · exact rfl
      have t0 : (s.toList == [48]) = false := by rw [beq_eq_false_iff_ne, Lib.toList_data]; exact c0
      have t1 : ((s.size : Int) == 0) = false := by rw [beq_eq_false_iff_ne]; omega
      have HN := Lib.hid hn
      clear c c0 h hn
      go_enter Tryd.func11, Tryd.ntmps11
      go_wp2_with fail
      refine (number_yes _ _ c2 C4.out).mono ?_
      rintro e w' ⟨rfl, rfl⟩
      generalize HexaMath.num s.data.toList = m at *
      go_wp2
      go_loop [4, 6] (fun x i => ∃ k : Nat, s.size ≤ k ∧ k ≤ 14 ∧ i = .int .i64 k ∧ x = .int .i64 (m * 16 ^ (k - s.size) : Nat)) (fun _ i => 14 - (intOf i).toNat)
      case atStart => exact ⟨s.size, Nat.le_refl _, c2, rfl, by simp⟩
      case round =>
        obtain ⟨k, hk1, hk2, rfl, rfl⟩ := hrel
        by_cases hk : k < 14
        · have hm : m * 16 ^ (k - s.size) * 16 ≤ n := by
            rw [← HN.out, Nat.mul_assoc, ← Nat.pow_succ]
            exact Nat.mul_le_mul_left _ (Nat.pow_le_pow_right (by decide) (by omega))
          have HP : Hid (m * 16 ^ (k + 1 - s.size) = m * 16 ^ (k - s.size) * 16) := by
            show _ = _
            rw [Nat.mul_assoc, ← Nat.pow_succ, show (k - s.size).succ = k + 1 - s.size from by omega]
          generalize m * 16 ^ (k - s.size) = x at *
          go_wp2
          go_round
          case rel => exact ⟨k + 1, by omega, by omega, by go_num, by rw [HP.out]; go_num⟩
          case measure => simp [intOf]; omega
        · obtain rfl : k = 14 := by omega
          rw [HN.out]
          go_wp2
          go_ret2
          exact ⟨rfl, rfl⟩
set_option maxHeartbeats 400000 in
theorem parseTh_no (s : ByteArray) (w : World) (h : HexaMath.parseTh s.data.toList = none) :
    Calls Tryd.prog 11 #[.string s] w fun e w' => e = .returned (.tuple #[.int .i64 0, .int .i64 3]) ∧ w = w' := by
  unfold HexaMath.parseTh at h
  by_cases c0 : s.data.toList = [48]
  · rw [if_pos c0] at h; cases h
  · rw [if_neg c0] at h
    by_cases c : s.data.toList.length = 0 ∨ 14 < s.data.toList.length ∨ s.data.toList.getLast? = some 48 ∨ s.data.toList.all HexaMath.isHex = false
    · have t0 : (s.toList == [48]) = false := by rw [beq_eq_false_iff_ne, Lib.toList_data]; exact c0
      rw [toList_length] at c
      clear h c0
      by_cases c1 : s.size = 0
      · have t1 : ((s.size : Int) == 0) = true := by rw [c1]; rfl
        clear c
        go_enter Tryd.func11, Tryd.ntmps11
        go_wp2
        go_ret2
        exact ⟨rfl, rfl⟩
      · have t1 : ((s.size : Int) == 0) = false := by rw [beq_eq_false_iff_ne]; omega
        by_cases c2 : 14 < s.size
        · clear c
          go_enter Tryd.func11, Tryd.ntmps11
          go_wp2
          go_ret2
          exact ⟨rfl, rfl⟩
        · by_cases c3 : s.data.toList.getLast? = some 48
          · have t3 := last_eq s (by omega) c3
            clear c c3
            go_enter Tryd.func11, Tryd.ntmps11
            go_wp2
            go_ret2
            exact ⟨rfl, rfl⟩
          · have t3 := last_ne s (by omega) c3
            have C4 : Hid (s.data.toList.all HexaMath.isHex = false) := by
              rcases c with c | c | c | c
              · exact absurd c c1
              · exact absurd c c2
              · exact absurd c c3
              · exact c
            have hs : s.size ≤ 14 := by omega
            clear c c3
            go_enter Tryd.func11, Tryd.ntmps11
            go_wp2_with fail
            refine (number_no _ _ hs C4.out).mono ?_
            rintro e w' ⟨rfl, rfl⟩
            go_wp2
            go_ret2
            exact ⟨rfl, rfl⟩
    · rw [if_neg c] at h; cases h

end Go.Proofs.YtfocmnjkoominaaDoor
