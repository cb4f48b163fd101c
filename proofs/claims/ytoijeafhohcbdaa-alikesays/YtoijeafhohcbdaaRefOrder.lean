/- The contract of the document's own test of orders (culref.Order). -/
import Derived.Test.YtoijeafhohcbdaaDigitCheck
import Derived.Test.YtoijeafhohcbdaaRefWithin
import Derived.Test.YtoijeafhohcbdaaShapes
import Derived.Test.YtoijeafhohcbdaaSubSlice
import Derived.Test.YtoijeafhohcbdaaRefGateMath
import Derived.Test.YtoijeafhohcbdaaContains
import Derived.Deep.LoopGhost
namespace Go.Proofs.Ytoijeafhohcbdaa
open Go.ChangeShapes Go.WideShapes Go.ChangeAt Go.RowKit
open Digit

theorem size_int' (w : World) : (sizeOf 3).run Try.prog w = .ok 1 w := by kernel_rfl
theorem elem_int' : Try.prog.elem 23 = 3 := by kernel_rfl
set_option maxRecDepth 100000 in
set_option maxHeartbeats 1000000 in
theorem refOrder_any (a : Option Addr) (len cap : Nat) (l : List Int) (w : World) (h : Tab w a len cap 1 (l.map iC)) :
    Calls Try.prog 48 #[.slice a len cap] w fun e w' => e = .returned (.int .i64 (checkD l)) ∧ w = w' := by
  have hl := h.hlen
  have hm := h.hmax
  have he := h.hle
  rw [List.length_map] at hl
  unfold maxLen at hm
  by_cases h12 : 12 < len
  · have E : Hid (checkD l = 2) := by unfold checkD; rw [if_pos (by omega)]; exact Lib.hid rfl
    clear h hl
    go_enter Try.func48, Try.ntmps48
    go_wp2
    go_ret
    exact ⟨ret_int E.out.symm, rfl⟩
  · have E : Hid (checkD l = goD len (l.take 0) (l.drop 0)) := by unfold checkD; rw [if_neg (by omega), hl]; exact Lib.hid rfl
    have h12' : len ≤ 12 := by omega
    have HT := Lib.hid h
    have HL := Lib.hid hl
    clear h hl
    go_enter Try.func48, Try.ntmps48
    go_wp2
    go_loopg [10] len (fun g i wr => wr = w ∧ ∃ k : Nat, k + g = len ∧ i = .int .i64 (k : Nat) ∧ Hid (checkD l = goD len (l.take k) (l.drop k)))
    case atStart => exact ⟨rfl, 0, by omega, rfl, E⟩
    case round =>
      obtain ⟨rfl, k, hk0, rfl, HE⟩ := hrel
      clear E
      have HJ := Lib.hid hk0
      have hk : k ≤ len := by omega
      clear hk0
      by_cases hlt : k < len
      · obtain ⟨x, hx⟩ : ∃ x, l[k]? = some x := ⟨_, List.getElem?_eq_getElem (by rw [HL.out]; exact hlt)⟩
        obtain ⟨b, off, ha, hbs, h0⟩ := HT.out.one (Below.refl _ _) (map_get hx)
        have HS := Lib.hid (goD_step (n := len) hx)
        subst ha
        have W := within_ref x 0 ((len : Int) - 1) wr
        clear hx
        by_cases r1 : x < 0 ∨ (len : Int) ≤ x
        · have HF : Hid (checkD l = 1) := by rw [HE.out, HS.out, if_pos r1]; exact Lib.hid rfl
          have r2 : (decide (0 ≤ x) && decide (x ≤ (len : Int) - 1)) = false := by
            rcases r1 with h | h
            · rw [show decide (0 ≤ x) = false from decide_eq_false (by omega)]; rfl
            · rw [show decide (x ≤ (len : Int) - 1) = false from decide_eq_false (by omega), Bool.and_false]
          rw [r2] at W
          have W := Lib.hid W
          clear r1 r2
          go_wp2_with fail
          refine W.out.mono ?_
          rintro e w1 ⟨rfl, rfl⟩
          go_wp2
          go_ret
          exact ⟨ret_int HF.out.symm, rfl⟩
        · have r2 : (decide (0 ≤ x) && decide (x ≤ (len : Int) - 1)) = true := by
            rw [show decide (0 ≤ x) = true from decide_eq_true (by omega), show decide (x ≤ (len : Int) - 1) = true from decide_eq_true (by omega)]; rfl
          rw [r2] at W
          have W := Lib.hid W
          have rU := run_upto 23 3 1 Try.underlying23 elem_int' size_int' (some ⟨b, off, none⟩) len cap k (by omega)
          have HU := HT.out.upto_ k hk
          rw [← List.map_take] at HU
          by_cases hm5 : x ∈ l.take k
          · have HF : Hid (checkD l = 5) := by rw [HE.out, HS.out, if_neg r1, if_pos hm5]; exact Lib.hid rfl
            have D := Lib.hid (contains_ints _ _ _ _ x wr HU true (by simpa using hm5))
            clear r1 r2 HS HU hm5
            go_wp2_with fail
            refine W.out.mono ?_
            rintro e w1 ⟨rfl, rfl⟩
            go_wp2_with fail
            refine D.out.mono ?_
            rintro e w1 ⟨rfl, rfl⟩
            go_wp2
            go_ret
            exact ⟨ret_int HF.out.symm, rfl⟩
          · have HF : Hid (checkD l = goD len (l.take (k + 1)) (l.drop (k + 1))) := by rw [HE.out, HS.out, if_neg r1, if_neg hm5]; exact Lib.hid rfl
            have D := Lib.hid (contains_ints _ _ _ _ x wr HU false (by simpa using hm5))
            clear r1 r2 HS HU hm5
            go_wp2_with fail
            refine W.out.mono ?_
            rintro e w1 ⟨rfl, rfl⟩
            go_wp2_with fail
            refine D.out.mono ?_
            rintro e w1 ⟨rfl, rfl⟩
            go_wp2
            go_roundg (len - (k + 1))
            case measure => have := HJ.out; omega
            case rel => exact ⟨rfl, k + 1, by omega, by go_num, HF⟩
      · have HF : Hid (checkD l = 0) := by rw [HE.out, List.drop_of_length_le (by rw [HL.out]; omega)]; exact Lib.hid rfl
        go_wp2
        go_ret
        exact ⟨ret_int HF.out.symm, rfl⟩
end Go.Proofs.Ytoijeafhohcbdaa
