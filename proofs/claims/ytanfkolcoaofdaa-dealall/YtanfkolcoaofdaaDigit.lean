/- The contracts of the program's digit.smaller, digit.factorial, digit.Check and digit.Rank. -/
import Derived.Test.YtanfkolcoaofdaaDigitCheck
import Derived.Test.YtanfkolcoaofdaaShapes
import Derived.Test.YtanfkolcoaofdaaSubSlice
import Derived.Test.YtanfkolcoaofdaaRefGateMath
import Derived.Test.YtanfkolcoaofdaaContains
import Derived.Deep.LoopGhost
namespace Go.Proofs.Ytanfkolcoaofdaa
open Go.ChangeShapes Go.WideShapes Go.ChangeAt Go.RowKit
open Digit

set_option maxRecDepth 100000 in
set_option maxHeartbeats 1000000 in
theorem smaller_any (a : Option Addr) (len cap : Nat) (l : List Int) (x : Int) (w : World) (h : Tab w a len cap 1 (l.map iC)) :
    Calls Try.prog 40 #[.slice a len cap, .int .i64 x] w fun e w' => e = .returned (.int .i64 (less x l : Nat)) ∧ w = w' := by
  have hl := h.hlen
  have hm := h.hmax
  have he := h.hle
  rw [List.length_map] at hl
  unfold maxLen at hm
  have HT := Lib.hid h
  have HL := Lib.hid hl
  clear h hl
  go_enter Try.func40, Try.ntmps40
  go_wp2
  go_loopg [5, 10] len (fun g z i wr => wr = w ∧ ∃ k : Nat, k + g = len ∧ i = .int .i64 (k : Nat) ∧ z = .int .i64 (less x (l.take k) : Nat))
  case atStart => exact ⟨rfl, 0, by omega, rfl, rfl⟩
  case round =>
    obtain ⟨rfl, k, hk0, rfl, rfl⟩ := hrel
    have HJ := Lib.hid hk0
    have hk : k ≤ len := by omega
    clear hk0
    by_cases hlt : k < len
    · obtain ⟨y, hy⟩ : ∃ y, l[k]? = some y := ⟨_, List.getElem?_eq_getElem (by rw [HL.out]; exact hlt)⟩
      obtain ⟨b, off, ha, hbs, h0⟩ := HT.out.one (Below.refl _ _) (map_get hy)
      have hq : less x (l.take k) ≤ k := Nat.le_trans (less_le _ _) (by rw [List.length_take]; omega)
      have HS : Hid (less x (l.take (k + 1)) = less x (l.take k) + if y < x then 1 else 0) := by
        rw [List.take_add_one, hy, less_app]
        show _ + less x [y] = _
        rw [less_cons, show less x [] = 0 from rfl, Nat.zero_add]
      subst ha
      clear hy
      generalize less x (l.take k) = s at *
      by_cases hyx : y < x
      · rw [if_pos hyx] at HS
        go_wp2
        go_roundg (len - (k + 1))
        case measure => have := HJ.out; omega
        case rel => exact ⟨rfl, k + 1, by omega, by go_num, by rw [HS.out]; go_num⟩
      · rw [if_neg hyx] at HS
        have hxy : x ≤ y := by omega
        clear hyx
        go_wp2
        go_roundg (len - (k + 1))
        case measure => have := HJ.out; omega
        case rel => exact ⟨rfl, k + 1, by omega, by go_num, by rw [HS.out]; go_num⟩
    · have HF : Hid (less x (l.take k) = less x l) := by rw [List.take_of_length_le (by rw [HL.out]; omega)]; exact Lib.hid rfl
      generalize less x (l.take k) = s at *
      go_wp2
      go_ret
      exact ⟨ret_int (by rw [HF.out]), rfl⟩

set_option maxRecDepth 100000 in
set_option maxHeartbeats 1000000 in
theorem factorial_any (n : Nat) (hn : n ≤ 12) (w : World) :
    Calls Try.prog 41 #[.int .i64 n] w fun e w' => e = .returned (.int .i64 (fact n : Nat)) ∧ w = w' := by
  go_enter Try.func41, Try.ntmps41
  go_wp2
  go_loopg [3, 4] (n - 1) (fun g z i wr => wr = w ∧ ∃ k : Nat, k + g = n - 1 ∧ i = .int .i64 ((k : Int) + 2) ∧ z = .int .i64 (fact (k + 1) : Nat))
  case atStart => exact ⟨rfl, 0, by omega, by go_num, rfl⟩
  case round =>
    obtain ⟨rfl, k, hk0, rfl, rfl⟩ := hrel
    have HJ := Lib.hid hk0
    have hk : k ≤ n - 1 := by omega
    clear hk0
    have hq : fact (k + 1) ≤ 479001600 := fact_max (by omega)
    by_cases hlt : k < n - 1
    · have hq2 : fact (k + 2) ≤ 479001600 := fact_max (by omega)
      have e1 : (fact (k + 1) : Int) * ((k : Int) + 2) = (fact (k + 2) : Int) := by
        rw [show fact (k + 2) = (k + 2) * fact (k + 1) from rfl, Int.natCast_mul, Int.mul_comm]
        rfl
      generalize hF0 : fact (k + 2) = q at *
      have hF : Hid (fact (k + 1 + 1) = q) := Lib.hid hF0
      clear hF0
      generalize fact (k + 1) = p at *
      have t1 : (k : Int) + 2 ≤ n := by omega
      go_wp2
      go_roundg (n - 1 - (k + 1))
      case measure => have := HJ.out; omega
      case rel => exact ⟨rfl, k + 1, by omega, by go_num, by rw [hF.out]⟩
    · have HF : Hid (fact (k + 1) = fact n) := by
        rcases Nat.eq_zero_or_pos n with h | h
        · subst h
          obtain rfl : k = 0 := by omega
          exact Lib.hid rfl
        · rw [show k + 1 = n from by omega]; exact Lib.hid rfl
      generalize fact (k + 1) = p at *
      have t1 : (n : Int) < (k : Int) + 2 := by omega
      go_wp2
      go_ret
      exact ⟨ret_int (by rw [HF.out]), rfl⟩

theorem size_int (w : World) : (sizeOf 3).run Try.prog w = .ok 1 w := by kernel_rfl
theorem elem_int : Try.prog.elem 22 = 3 := by kernel_rfl
set_option maxRecDepth 100000 in
set_option maxHeartbeats 1000000 in
theorem digitCheck_any (a : Option Addr) (len cap : Nat) (l : List Int) (w : World) (h : Tab w a len cap 1 (l.map iC)) :
    Calls Try.prog 18 #[.slice a len cap] w fun e w' => e = .returned (.int .i64 (checkD l)) ∧ w = w' := by
  have hl := h.hlen
  have hm := h.hmax
  have he := h.hle
  rw [List.length_map] at hl
  unfold maxLen at hm
  by_cases h12 : 12 < len
  · have E : Hid (checkD l = 2) := by unfold checkD; rw [if_pos (by omega)]; exact Lib.hid rfl
    clear h hl
    go_enter Try.func18, Try.ntmps18
    go_wp2
    go_ret
    exact ⟨ret_int E.out.symm, rfl⟩
  · have E : Hid (checkD l = goD len (l.take 0) (l.drop 0)) := by unfold checkD; rw [if_neg (by omega), hl]; exact Lib.hid rfl
    have h12' : len ≤ 12 := by omega
    have HT := Lib.hid h
    have HL := Lib.hid hl
    clear h hl
    go_enter Try.func18, Try.ntmps18
    go_wp2
    go_loopg [10] len (fun g i wr => wr = w ∧ ∃ k : Nat, k + g = len ∧ i = .int .i64 (k : Nat) ∧ Hid (checkD l = goD len (l.take k) (l.drop k)))
    case atStart => exact ⟨rfl, 0, by omega, rfl, E⟩
    case round =>
      obtain ⟨rfl, k, hk0, rfl, HE⟩ := hrel
      clear E
      have HJ := Lib.hid hk0
      have hk : k ≤ len := by omega
      clear hk0
      by_cases hlt : k < len
      · obtain ⟨x, hx⟩ : ∃ x, l[k]? = some x := ⟨_, List.getElem?_eq_getElem (by rw [HL.out]; exact hlt)⟩
        obtain ⟨b, off, ha, hbs, h0⟩ := HT.out.one (Below.refl _ _) (map_get hx)
        have HS := Lib.hid (goD_step (n := len) hx)
        subst ha
        by_cases r1 : x < 0 ∨ (len : Int) ≤ x
        · have HF : Hid (checkD l = 1) := by rw [HE.out, HS.out, if_pos r1]; exact Lib.hid rfl
          clear hx
          by_cases r2 : x < 0
          · clear r1
            go_wp2
            go_ret
            exact ⟨ret_int HF.out.symm, rfl⟩
          · have r3 : (len : Int) ≤ x := by omega
            clear r1
            go_wp2
            go_ret
            exact ⟨ret_int HF.out.symm, rfl⟩
        · have r2 : 0 ≤ x := by omega
          have r3 : x < (len : Int) := by omega
          have rU := run_upto 22 3 1 Try.underlying22 elem_int size_int (some ⟨b, off, none⟩) len cap k (by omega)
          have HU := HT.out.upto_ k hk
          rw [← List.map_take] at HU
          by_cases hm5 : x ∈ l.take k
          · have HF : Hid (checkD l = 5) := by rw [HE.out, HS.out, if_neg r1, if_pos hm5]; exact Lib.hid rfl
            have D := Lib.hid (contains_ints _ _ _ _ x wr HU true (by simpa using hm5))
            clear r1 hx HS HU hm5
            go_wp2_with fail
            refine D.out.mono ?_
            rintro e w1 ⟨rfl, rfl⟩
            go_wp2
            go_ret
            exact ⟨ret_int HF.out.symm, rfl⟩
          · have HF : Hid (checkD l = goD len (l.take (k + 1)) (l.drop (k + 1))) := by rw [HE.out, HS.out, if_neg r1, if_neg hm5]; exact Lib.hid rfl
            have D := Lib.hid (contains_ints _ _ _ _ x wr HU false (by simpa using hm5))
            clear r1 hx HS HU hm5
            go_wp2_with fail
            refine D.out.mono ?_
            rintro e w1 ⟨rfl, rfl⟩
            go_wp2
            go_roundg (len - (k + 1))
            case measure => have := HJ.out; omega
            case rel => exact ⟨rfl, k + 1, by omega, by go_num, HF⟩
      · have HF : Hid (checkD l = 0) := by rw [HE.out, List.drop_of_length_le (by rw [HL.out]; omega)]; exact Lib.hid rfl
        go_wp2
        go_ret
        exact ⟨ret_int HF.out.symm, rfl⟩

set_option maxRecDepth 100000 in
set_option maxHeartbeats 1000000 in
theorem digitRank_ok (a : Option Addr) (len cap : Nat) (l : List Int) (w : World) (h : Tab w a len cap 1 (l.map iC)) (h12 : l.length ≤ 12) (hok : Ok l) :
    Calls Try.prog 15 #[.slice a len cap] w fun e w' => e = .returned (.tuple #[.int .i64 (rankOf l : Nat), .int .i64 0]) ∧ w = w' := by
  have hl := h.hlen
  have hm := h.hmax
  have he := h.hle
  rw [List.length_map] at hl
  unfold maxLen at hm
  have C := digitCheck_any a len cap l w h
  rw [checkD_ok h12 hok] at C
  have C := Lib.hid C
  have hr : rankOf l ≤ 479001600 := by
    have := (orderOf_rank hok).1
    have := fact_max h12
    omega
  have HR := Lib.hid (fun k (hk : k ≤ l.length) => rankTo_le h12 hr hk)
  have HT := Lib.hid h
  have HL := Lib.hid hl
  have hlen : len ≤ 12 := by omega
  clear h hl h12 hok hr
  go_enter Try.func15, Try.ntmps15
  go_wp2_with fail
  refine C.out.mono ?_
  rintro e w1 ⟨rfl, rfl⟩
  go_wp2
  go_loopg [5, 15] len (fun g z i wr => wr = w ∧ ∃ k : Nat, k + g = len ∧ i = .int .i64 (k : Nat) ∧ z = .int .i64 (rankTo l k : Nat))
  case atStart => exact ⟨rfl, 0, by omega, rfl, rfl⟩
  case round =>
    obtain ⟨rfl, k, hk0, rfl, rfl⟩ := hrel
    have HJ := Lib.hid hk0
    have hk : k ≤ len := by omega
    clear hk0 C
    have hq := HR.out k (by rw [HL.out]; exact hk)
    by_cases hlt : k < len
    · obtain ⟨x, hx⟩ : ∃ x, l[k]? = some x := ⟨_, List.getElem?_eq_getElem (by rw [HL.out]; exact hlt)⟩
      obtain ⟨b, off, ha, hbs, h0⟩ := HT.out.one (Below.refl _ _) (map_get hx)
      have hq2 := HR.out (k + 1) (by rw [HL.out]; exact hlt)
      have e0 : rankTo l (k + 1) = rankTo l k * (len - k) + less x (l.drop (k + 1)) := by rw [rankTo, hx, HL.out]; rfl
      have rF := run_from 22 3 1 Try.underlying22 elem_int size_int (some ⟨b, off, none⟩) len cap (k + 1) (by omega)
      rw [show ((k + 1 : Nat) : Int) = (k : Int) + 1 from by omega] at rF
      subst ha
      have HU := HT.out.from_ (k + 1) (by omega)
      rw [← List.map_drop] at HU
      have D := Lib.hid (smaller_any _ _ _ _ x wr HU)
      clear hx HU
      generalize less x (l.drop (k + 1)) = s at *
      generalize hrq : rankTo l (k + 1) = q at *
      have HQ := Lib.hid hrq
      clear hrq
      generalize rankTo l k = p at *
      have e1 : (p : Int) * ((len : Int) - k) = ((p * (len - k) : Nat) : Int) := by rw [Int.natCast_mul, Int.natCast_sub hk]
      have HE0 := Lib.hid e0
      generalize p * (len - k) = y at *
      have hy : y ≤ 479001600 := by omega
      have hs : s ≤ 479001600 := by omega
      clear e0
      go_wp2_with fail
      refine D.out.mono ?_
      rintro e w1 ⟨rfl, rfl⟩
      go_wp2
      go_roundg (len - (k + 1))
      case measure => have := HJ.out; omega
      case rel => exact ⟨rfl, k + 1, by omega, by go_num, by rw [HQ.out, HE0.out]; go_num⟩
    · have HF : Hid (rankTo l k = rankOf l) := by rw [← rankTo_all, HL.out, show k = len from by omega]; exact Lib.hid rfl
      generalize rankTo l k = s at *
      go_wp2
      go_ret2
      exact ⟨ret_int2 (by rw [HF.out]), rfl⟩

set_option maxRecDepth 100000 in
set_option maxHeartbeats 1000000 in
theorem digitRank_bad (a : Option Addr) (len cap : Nat) (l : List Int) (w : World) (h : Tab w a len cap 1 (l.map iC)) (hc : checkD l ≠ 0) :
    Calls Try.prog 15 #[.slice a len cap] w fun e w' => e = .returned (.tuple #[.int .i64 0, .int .i64 (checkD l)]) ∧ w = w' := by
  have C := Lib.hid (digitCheck_any a len cap l w h)
  have t : ((checkD l : Int) != 0) = true := by simpa using hc
  clear hc h
  generalize checkD l = c at *
  go_enter Try.func15, Try.ntmps15
  go_wp2_with fail
  refine C.out.mono ?_
  rintro e w1 ⟨rfl, rfl⟩
  go_wp2
  go_ret2
  exact ⟨rfl, rfl⟩

end Go.Proofs.Ytanfkolcoaofdaa
