/- Contracts of the document's own answers on hexadecimal texts (package culref), and of what they call in package strings: TrimRight at one byte, IndexByte. -/
import Derived.Test.YtfocmnjkoominaaDoorRefWithin
import Derived.Test.YtfocmnjkoominaaDoorHexaParse
import Derived.Test.YtfocmnjkoominaaDoorHexaText
import Derived.Test.YtfocmnjkoominaaDoorBytes
import Derived.Lib.Bytealg
import Derived.Laws.Concat
namespace Go.Proofs.YtfocmnjkoominaaDoor
open Go.ChangeShapes Go.WideShapes Go.ChangeAt Go.RowKit

set_option maxHeartbeats 400000 in
theorem indexByte_any (s : ByteArray) (c : UInt8) (w : World) :
    Calls Tryd.prog 16 #[.string s, .int .u8 c.toNat] w fun e w' => e = .returned (.int .i64 (Lib.indexByte s.data.toList c)) ∧ w = w' := by
  have hx : ∀ w : World, (callFunc 37 #[.string s, .int .u8 c.toNat]).run Tryd.prog w = .ok (.value (.int .i64 (Lib.indexByte s.data.toList c))) w := by
    intro w
    rw [run_callFunc_extern Tryd.func37 (by kernel_rfl) (by kernel_rfl) (by kernel_rfl) (e := Extern.BytealgIndexByte.indexByte) (by kernel_rfl), Lib.run_indexByteString]
    have e : (Int.toNat (c.toNat : Int)).toUInt8 = c := by
      rw [Int.toNat_natCast]; exact UInt8.ofNat_toNat
    rw [e]
    rfl
  go_enter Tryd.func16, Tryd.ntmps16
  go_wp2
  go_ret
  exact ⟨rfl, rfl⟩

theorem byte_extract (s : ByteArray) (k : Nat) (hk : k ≤ s.size) (j : Nat) (hj : j < (s.extract 0 k).size) (hj' : j < s.size) : (s.extract 0 k)[j] = s[j] := by
  rw [ByteArray.getElem_extract]
  simp
theorem list_getD (s : ByteArray) (k : Nat) (h : k < s.size) : s.data.toList.getD k 0 = s[k] := by
  rw [List.getD_eq_getElem?_getD, List.getElem?_eq_getElem (by simpa using h)]
  rfl
theorem trim_hit (s : ByteArray) (k : Nat) (c : UInt8) (h1 : 0 < k) (hk : k ≤ s.size) {hj : k - 1 < (s.extract 0 k).size} (e : (((s.extract 0 k)[k - 1]'hj).toNat : Int) == (c.toNat : Int)) :
    HexaMath.trim s.data.toList c k = HexaMath.trim s.data.toList c (k - 1) := by
  obtain ⟨j, rfl⟩ : ∃ j, k = j + 1 := ⟨k - 1, by omega⟩
  rw [byte_extract s (j + 1) hk _ hj (by omega)] at e
  have e' : (s[j + 1 - 1]'(by omega)).toNat = c.toNat := by have := beq_iff_eq.1 e; omega
  have h : s.data.toList.getD j 0 = c := by
    rw [list_getD s j (by omega)]; exact UInt8.toNat_inj.1 e'
  rw [HexaMath.trim, if_pos h]; rfl
theorem trim_miss (s : ByteArray) (k : Nat) (c : UInt8) (h1 : 0 < k) (hk : k ≤ s.size) {hj : k - 1 < (s.extract 0 k).size} (e : ((((s.extract 0 k)[k - 1]'hj).toNat : Int) == (c.toNat : Int)) = false) :
    HexaMath.trim s.data.toList c k = k := by
  obtain ⟨j, rfl⟩ : ∃ j, k = j + 1 := ⟨k - 1, by omega⟩
  rw [byte_extract s (j + 1) hk _ hj (by omega)] at e
  have h : ¬ s.data.toList.getD j 0 = c := by
    rw [list_getD s j (by omega)]
    intro h
    rw [beq_eq_false_iff_ne] at e
    apply e
    show ((s[j]'(by omega)).toNat : Int) = _
    rw [h]
  rw [HexaMath.trim, if_neg h]
theorem extract_less (s : ByteArray) (k : Nat) (hk : k ≤ s.size) : (s.extract 0 k).extract 0 (k - 1) = s.extract 0 (k - 1) := by
  rw [Lib.extract_eq, Lib.extract_data, Lib.extract_eq]
  simp only [List.drop_zero, Nat.sub_zero, List.take_take]
  rw [Nat.min_eq_left (by omega)]

/-- the last k digits of n, as a text -/
def kB (k n : Nat) : ByteArray := ⟨(HexaMath.rvk k n).toArray⟩
def dB (m : Nat) : ByteArray := ⟨#[HexaMath.dig m]⟩
theorem kB_all (n : Nat) : kB 14 n = rvB n := by
  unfold kB rvB; rw [HexaMath.rv_eq]
theorem add_digit {P : Program} (k n : Nat) (w : World) (hk : k ≤ 14) : (Op.stringOp .add (dB (n / 16 ^ k)) (kB k n)).run P w = .ok (.string (kB (k + 1) n)) w := by
  have h1 : (dB (n / 16 ^ k)).size = 1 := rfl
  have h2 : (kB k n).size = k := by
    show (HexaMath.rvk k n).toArray.size = k
    rw [List.size_toArray, HexaMath.rvk_length]
  rw [run_string_add_sum w _ _ (by omega)]
  congr 2
  unfold dB kB
  rw [ByteArray.mk_append_mk, HexaMath.rvk_cons]
  rfl
theorem slice_digit {P : Program} (t : TypeId) (ht : P.underlying t = some .string) (m : Nat) (w : World) :
    (Instr.slice t (.string ⟨#[48, 49, 50, 51, 52, 53, 54, 55, 56, 57, 97, 98, 99, 100, 101, 102]⟩) (some (.int .i64 ((m : Int) % 16))) (some (.int .i64 ((m : Int) % 16 + 1))) none).run P w = .ok (.string (dB m)) w := by
  rw [run_slice_string w t _ .i64 .i64 _ _ ht (by omega) (by omega) (by show (m : Int) % 16 + 1 ≤ 16; omega)]
  congr 2
  rw [show ((m : Int) % 16).toNat = m % 16 from by omega, show ((m : Int) % 16 + 1).toNat = m % 16 + 1 from by omega]
  have hall : ∀ i : Fin 16, (HexaMath.digits.extract i.val (i.val + 1)).data.toList = [HexaMath.dig i.val] := by decide +kernel
  have := hall ⟨m % 16, Nat.mod_lt _ (by decide)⟩
  apply ByteArray.ext
  apply Array.toList_inj.1
  rw [show dB m = ⟨#[HexaMath.dig (m % 16)]⟩ from by unfold dB; rw [← HexaMath.dig_mod]]
  exact this

set_option maxHeartbeats 400000 in
theorem trimByte_any (s : ByteArray) (c : UInt8) (w : World) (hs : s.size ≤ 14) :
    Calls Tryd.prog 38 #[.string s, .int .u8 c.toNat] w fun e w' => e = .returned (.string (s.extract 0 (HexaMath.trim s.data.toList c s.size))) ∧ w = w' := by
  have HT := Lib.hid (HexaMath.trim_le s.data.toList c s.size)
  go_enter Tryd.func38, Tryd.ntmps38
  go_wp2
  go_loop [0] (fun x => ∃ k : Nat, k ≤ s.size ∧ x = .string (s.extract 0 k) ∧ HexaMath.trim s.data.toList c s.size = HexaMath.trim s.data.toList c k) (fun x => match x with | .string t => t.size | _ => 0)
  case atStart => exact ⟨s.size, Nat.le_refl _, by rw [ByteArray.extract_zero_size], rfl⟩
  case round =>
    obtain ⟨k, hk, rfl, hcut⟩ := hrel
    have HC := Lib.hid hcut
    clear hcut
    go_wp2
    · have h1 : 0 < k := by omega
      have e := trim_hit s k c h1 hk (by assumption)
      go_round
      case rel => exact ⟨k - 1, by omega, by rw [extract_less s k hk], HC.out.trans e⟩
      case measure => simp; omega
    · have h1 : 0 < k := by omega
      have e := trim_miss s k c h1 hk (by assumption)
      go_ret
      exact ⟨by rw [HC.out, e]; rfl, rfl⟩
    · have h1 : k = 0 := by omega
      subst h1
      go_ret
      exact ⟨by rw [HC.out]; rfl, rfl⟩

set_option maxHeartbeats 400000 in
theorem refRv_any (n : Nat) (w : World) (hn : n < 72057594037927936) :
    Calls Tryd.prog 23 #[.int .i64 n] w fun e w' => e = .returned (.string (rvB n)) ∧ w = w' := by
  go_enter Tryd.func23, Tryd.ntmps23
  go_wp2
  go_loop [0, 3, 4] (fun x s i => ∃ k : Nat, k ≤ 14 ∧ i = .int .i64 k ∧ x = .int .i64 (n / 16 ^ k : Nat) ∧ s = .string (kB k n)) (fun _ _ i => 14 - (intOf i).toNat)
  case atStart => exact ⟨0, Nat.zero_le _, rfl, by simp, rfl⟩
  case round =>
    obtain ⟨k, hk, rfl, rfl, rfl⟩ := hrel
    have hm : n / 16 ^ k < 72057594037927936 := Nat.lt_of_le_of_lt (Nat.div_le_self _ _) hn
    have hadd := add_digit (P := Tryd.prog) k n w hk
    have hsl := slice_digit (P := Tryd.prog) 9 Tryd.underlying9 (n / 16 ^ k) w
    have HN : Hid (n / 16 ^ (k + 1) = n / 16 ^ k / 16) := by show _ = _; rw [Nat.div_div_eq_div_mul, Nat.pow_succ]
    generalize n / 16 ^ k = m at *
    by_cases hlt : k < 14
    · go_wp2
      go_round
      case rel => exact ⟨k + 1, by omega, by go_num, by rw [HN.out]; go_num, rfl⟩
      case measure => simp [intOf]; omega
    · obtain rfl : k = 14 := by omega
      have HK := Lib.hid (kB_all n)
      clear hadd hsl
      go_wp2
      go_ret
      exact ⟨by rw [← HK.out]; rfl, rfl⟩

theorem isEmpty_no (s : ByteArray) (h : 0 < s.size) : s.toList.isEmpty = false := by
  rw [Lib.toList_data]
  cases e : s.data.toList with
  | nil => rw [Lib.size_eq, e] at h; cases h
  | cons a l => rfl
set_option maxRecDepth 100000 in
set_option maxHeartbeats 400000 in
theorem trimRight_zero (s : ByteArray) (w : World) (h0 : 0 < s.size) (hs : s.size ≤ 14) :
    Calls Tryd.prog 33 #[.string s, .string ⟨#[48]⟩] w fun e w' => e = .returned (.string (s.extract 0 (HexaMath.trim s.data.toList 48 s.size))) ∧ w = w' := by
  have t0 := isEmpty_no s h0
  have HC := Lib.hid (trimByte_any s 48 w hs)
  rw [show ((48 : UInt8).toNat : Int) = 48 from rfl] at HC
  go_enter Tryd.func33, Tryd.ntmps33
  go_wp2_with fail
  refine HC.out.mono ?_
  rintro e w' ⟨rfl, rfl⟩
  go_wp2
  go_ret
  exact ⟨rfl, rfl⟩

theorem refTh_cases (n : Nat) (hn : n < 72057594037927936) :
    (n = 0 ∧ (rvB n).extract 0 (HexaMath.trim (rvB n).data.toList 48 (rvB n).size) = ⟨#[]⟩ ∧ thB n = ⟨#[48]⟩) ∨
    (0 < ((rvB n).extract 0 (HexaMath.trim (rvB n).data.toList 48 (rvB n).size)).size ∧ (rvB n).extract 0 (HexaMath.trim (rvB n).data.toList 48 (rvB n).size) = thB n) := by
  have hsz := rvB_size n
  have hl : (rvB n).data.toList = HexaMath.rv n := rfl
  rw [hsz, hl]
  rcases HexaMath.th_char n hn with ⟨e, t⟩ | ⟨hp, p, r, b, ne⟩
  · left
    subst e
    refine ⟨rfl, ?_, ?_⟩
    · have : HexaMath.trim (HexaMath.rv 0) 48 14 = 0 := by decide +kernel
      rw [this]; rfl
    · apply ByteArray.ext
      apply Array.toList_inj.1
      have : (thB 0).data.toList = HexaMath.th 0 := by rw [thB_eq, Lib.extract_data]; rfl
      rw [this, t]
  · right
    have hk : HexaMath.trim (HexaMath.rv n) 48 14 = (HexaMath.th n).length := by
      have h14 : (HexaMath.th n).length + p = 14 := by
        have := congrArg List.length r
        rw [HexaMath.rv_length] at this; simpa using this.symm
      rw [← h14]
      conv => lhs; rw [r]
      exact HexaMath.trim_bare _ p b p (Nat.le_refl _)
    rw [hk]
    have e : (rvB n).extract 0 (HexaMath.th n).length = thB n := by
      rw [thB_eq]
      congr 1
      have : (HexaMath.th n).length = min (HexaMath.cut ⟨(HexaMath.rv n).toArray⟩ 14) 14 := by
        unfold HexaMath.th; rw [List.length_take, HexaMath.rv_length]
      rw [this]
      have := HexaMath.cut_le ⟨(HexaMath.rv n).toArray⟩ 14
      show min (HexaMath.cut (rvB n) 14) 14 = HexaMath.cut (rvB n) 14
      have h' : HexaMath.cut (rvB n) 14 ≤ 14 := this
      omega
    refine ⟨?_, e⟩
    rw [ByteArray.size_extract, hsz]
    have := HexaMath.th_length n
    omega

set_option maxHeartbeats 400000 in
theorem refTh_any (n : Nat) (w : World) (hn : n < 72057594037927936) :
    Calls Tryd.prog 24 #[.int .i64 n] w fun e w' => e = .returned (.string (thB n)) ∧ w = w' := by
  have hsz := rvB_size n
  have HC := Lib.hid (trimRight_zero (rvB n) w (by omega) (by omega))
  rcases refTh_cases n hn with ⟨h0, h1, h2⟩ | ⟨h1, h2⟩
  · have H1 := Lib.hid h1
    have H2 := Lib.hid h2
    clear h0 h1 h2 hsz
    go_enter Tryd.func24, Tryd.ntmps24
    go_wp2_with fail
    refine (refRv_any n _ hn).mono ?_
    rintro e w' ⟨rfl, rfl⟩
    go_wp2_with fail
    refine HC.out.mono ?_
    rw [H1.out]
    rintro e w' ⟨rfl, rfl⟩
    go_wp2
    go_ret
    exact ⟨by rw [H2.out]; rfl, rfl⟩
  · rw [h2] at h1
    have t0 := isEmpty_no _ h1
    have H2 := Lib.hid h2
    clear h1 h2 hsz
    go_enter Tryd.func24, Tryd.ntmps24
    go_wp2_with fail
    refine (refRv_any n _ hn).mono ?_
    rintro e w' ⟨rfl, rfl⟩
    go_wp2_with fail
    refine HC.out.mono ?_
    rw [H2.out]
    rintro e w' ⟨rfl, rfl⟩
    go_wp2
    go_ret
    exact ⟨rfl, rfl⟩

/-- what the document's reader answers: the number, or -1 -/
def orNone : Option Nat → Int
  | some n => n
  | none => -1
theorem index_hex : ∀ i : Fin 256, Lib.indexByte HexaMath.digits.data.toList (UInt8.ofNat i.val) = if HexaMath.isHex (UInt8.ofNat i.val) = true then (HexaMath.dval (UInt8.ofNat i.val) : Int) else -1 := by decide +kernel
theorem index_dig (c : UInt8) : Lib.indexByte [48, 49, 50, 51, 52, 53, 54, 55, 56, 57, 97, 98, 99, 100, 101, 102] c = if HexaMath.isHex c = true then (HexaMath.dval c : Int) else -1 := by
  have e : UInt8.ofNat c.toNat = c := UInt8.ofNat_toNat
  have := index_hex ⟨c.toNat, c.toNat_lt⟩
  simp only [e] at this
  exact this
theorem digits_any (c : UInt8) (w : World) :
    Calls Tryd.prog 16 #[.string ⟨#[48, 49, 50, 51, 52, 53, 54, 55, 56, 57, 97, 98, 99, 100, 101, 102]⟩, .int .u8 c.toNat] w fun e w' => e = .returned (.int .i64 (if HexaMath.isHex c = true then (HexaMath.dval c : Int) else -1)) ∧ w = w' := by
  have h := indexByte_any ⟨#[48, 49, 50, 51, 52, 53, 54, 55, 56, 57, 97, 98, 99, 100, 101, 102]⟩ c w
  have e := index_dig c
  rw [← e]
  exact h
theorem parseRv_long (l : List UInt8) (h : l.length ≠ 14) : HexaMath.parseRv l = none := by
  unfold HexaMath.parseRv; rw [if_neg (fun c => h c.1)]
theorem parseRv_bad (l : List UInt8) (h : l.all HexaMath.isHex = false) : HexaMath.parseRv l = none := by
  unfold HexaMath.parseRv; rw [if_neg (fun c => by rw [h] at c; cases c.2)]
theorem all_bad (s : ByteArray) (k : Nat) (h : k < s.size) (hx : HexaMath.isHex s[k] = false) : s.data.toList.all HexaMath.isHex = false := by
  rw [List.all_eq_false]
  exact ⟨s[k], List.getElem_mem (l := s.data.toList) (by simpa using h), by rw [hx]; decide⟩

set_option maxRecDepth 100000 in
set_option maxHeartbeats 400000 in
theorem refParseRv_any (s : ByteArray) (w : World) (hs : s.size ≤ maxLen) :
    Calls Tryd.prog 18 #[.string s] w fun e w' => e = .returned (.int .i64 (orNone (HexaMath.parseRv s.data.toList))) ∧ Below w.heap.size w w' := by
  obtain ⟨cap, W, hrun, hb, hsz, hcell⟩ := bytes_run Tryd.prog w 9 40 5 s Tryd.underlying9 Tryd.underlying40 Tryd.underlying5
  have HC := Lib.hid hcell
  clear hcell hsz
  unfold maxLen at hs
  go_enter Tryd.func18, Tryd.ntmps18
  go_wp2
  clear hrun
  go_loop [3, 10] (fun n i => ∃ k : Nat, k ≤ s.size ∧ i = .int .i64 k ∧ n = .int .i64 (HexaMath.num (s.data.toList.take k) : Nat) ∧ (s.data.toList.take k).all HexaMath.isHex = true ∧ HexaMath.num (s.data.toList.take k) < 1152921504606846976) (fun _ i => s.size - (intOf i).toNat)
  case atStart => exact ⟨0, Nat.zero_le _, rfl, rfl, rfl, by show 0 < 1152921504606846976; decide⟩
  case round =>
    obtain ⟨k, hk, rfl, rfl, hxt, hb2⟩ := hrel
    by_cases hlt : k < s.size
    · have hc := HC.out k hlt
      cases hx : HexaMath.isHex s[k]
      · have HB : Hid (HexaMath.parseRv s.data.toList = none) := parseRv_bad _ (all_bad s k hlt hx)
        have HX := Lib.hid hx
        have HI := Lib.hid (digits_any s[k] W)
        clear hx hxt
        go_wp2_with fail
        refine HI.out.mono ?_
        rw [HX.out]
        rintro e w' ⟨rfl, rfl⟩
        go_wp2
        go_ret
        exact ⟨by rw [HB.out]; rfl, hb⟩
      · have HX := Lib.hid hx
        have HI := Lib.hid (digits_any s[k] W)
        have hd := (HexaMath.dig_dval _ hx).2
        have HN := Lib.hid (num_take s k hlt)
        have HA : Hid ((s.data.toList.take (k + 1)).all HexaMath.isHex = true) := by show _ = _; rw [all_take s k hlt, hxt, hx]; rfl
        by_cases hbig : HexaMath.num (s.data.toList.take k) < 72057594037927936
        · have t1 : decide (72057594037927936 ≤ (HexaMath.num (s.data.toList.take k) : Int)) = false := by simp; omega
          have HT := Lib.hid hxt
          clear hx hxt
          go_wp2_with fail
          refine HI.out.mono ?_
          rw [HX.out]
          rintro e w' ⟨rfl, rfl⟩
          go_wp2
          go_round
          case rel => exact ⟨k + 1, by omega, by go_num, by rw [HN.out]; go_num, HA.out, by rw [HN.out]; omega⟩
          case measure => simp [intOf]; omega
        · have t1 : decide (72057594037927936 ≤ (HexaMath.num (s.data.toList.take k) : Int)) = true := by simp; omega
          have HB : Hid (HexaMath.parseRv s.data.toList = none) := by
            apply parseRv_long
            rw [toList_length]
            intro e
            have := num_small s k (by omega) hxt
            omega
          clear hx hxt
          go_wp2_with fail
          refine HI.out.mono ?_
          rw [HX.out]
          rintro e w' ⟨rfl, rfl⟩
          go_wp2
          go_ret
          exact ⟨by rw [HB.out]; rfl, hb⟩
    · have hk' : s.data.toList.take k = s.data.toList := List.take_of_length_le (by simp; omega)
      rw [hk'] at hxt hb2
      rw [hk']
      clear hk'
      by_cases h14 : s.size = 14
      · have HB : Hid (HexaMath.parseRv s.data.toList = some (HexaMath.num s.data.toList)) := by
          show _ = _
          unfold HexaMath.parseRv; rw [if_pos ⟨by rw [toList_length]; exact h14, hxt⟩]
        have t1 : ((s.size : Int) != 14) = false := by rw [h14]; rfl
        clear hxt h14
        go_wp2
        go_ret
        exact ⟨by rw [HB.out]; rfl, hb⟩
      · have HB : Hid (HexaMath.parseRv s.data.toList = none) := by apply parseRv_long; rw [toList_length]; exact h14
        have t1 : ((s.size : Int) != 14) = true := by rw [bne_iff_ne]; omega
        clear hxt h14
        go_wp2
        go_ret
        exact ⟨by rw [HB.out]; rfl, hb⟩

end Go.Proofs.YtfocmnjkoominaaDoor
