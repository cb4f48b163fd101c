/- The contract of cultop's begun. -/
import Derived.Test.YtffgoekdjcempabDigitOrder
import Derived.Test.YtffgoekdjcempabGr8
namespace Go.Proofs.Ytffgoekdjcempab
open Go.ChangeShapes Go.WideShapes Go.ChangeAt Go.RowKit

theorem order_two_one : Digit.orderOf 2 1 = [1, 0] := by decide
set_option maxRecDepth 100000 in
set_option maxHeartbeats 1000000 in
theorem begun_any (w : World) : Calls Try.prog 29 #[] w fun e w' => e = .returned (.bool true) ∧ Below w.heap.size w w' := by
  have C0 := order_ok 2 1 (by decide) (by decide) w
  rw [order_two_one] at C0
  have C0 := Lib.hid C0
  go_enter Try.func29, Try.ntmps29
  go_wp2_with fail
  refine C0.out.mono ?_
  rintro e v1 ⟨s1, rfl, hO1, hb1⟩
  obtain ⟨q1, cap1, rfl, hT1⟩ := hO1.tab
  have E1 := Lib.hid (equal_ints q1 (some ⟨v1.heap.size, 0, none⟩) 2 cap1 2 2 [1, 0] [1, 0] (v1.alloc (.cells #[.int .i64 1, .int .i64 0] 3)) (hT1.below ((Below.refl _ _).alloc (Nat.le_refl _) _)) (tab_lit v1 3 1 2 ([(1 : Int), 0].map iC) #[.int .i64 1, .int .i64 0] rfl rfl (rows_of iC_len _) (by decide) _ rfl) true (by simp))
  have HB1 := Lib.hid (hb1.alloc hb1.size (.cells #[.int .i64 1, .int .i64 0] 3))
  clear hb1 hO1 hT1 C0
  go_wp2_with fail
  refine E1.out.mono ?_
  rintro e v2 ⟨rfl, hb2⟩
  go_wp2
  go_ret
  exact ⟨rfl, below_on HB1.out hb2⟩
end Go.Proofs.Ytffgoekdjcempab
