/- The contract of the program's cum.sums. -/
import Derived.Test.YtfgcmlgdgmcffabAliasMake
import Derived.Test.YtfgcmlgdgmcffabCumMath
import Derived.Test.YtfgcmlgdgmcffabOwnMore
import Derived.OwnWalk
namespace Go.Proofs.Ytfgcmlgdgmcffab
open Go.ChangeShapes Go.WideShapes Go.ChangeAt Go.RowKit
open Cum

set_option maxRecDepth 100000 in
set_option maxHeartbeats 1000000 in
theorem sums_bad (a : Option Addr) (len cap : Nat) (l : List Int) (w : World) (h : Tab w a len cap 1 (l.map iC)) (hE : weightsE l ≠ 0) :
    Calls Try.prog 28 #[.slice a len cap] w fun e w' => e = .returned (.tuple #[.slice none 0 0, .int .i64 0, .int .i64 (weightsE l)]) ∧ Below w.heap.size w w' := by
  have HC := Lib.hid (make_bad a len cap l w h hE)
  have t : (weightsE l != 0) = true := by simpa using hE
  clear h hE
  generalize weightsE l = E at *
  go_enter Try.func28, Try.ntmps28
  go_wp2_with fail
  refine HC.out.mono ?_
  rintro e w1 ⟨rfl, hb⟩
  have HB := Lib.hid (hb.alloc hb.size (.cells #[.int .i64 0, .slice none 0 0, .slice none 0 0] 72))
  clear hb
  go_wp2
  go_ret3
  exact ⟨rfl, HB.out⟩

set_option maxRecDepth 100000 in
set_option maxHeartbeats 1000000 in
theorem sums_ok (a : Option Addr) (len cap : Nat) (l : List Int) (w : World) (h : Tab w a len cap 1 (l.map iC)) (hE : weightsE l = 0) :
    Calls Try.prog 28 #[.slice a len cap] w fun e w' => ∃ G : Nat, e = .returned (.tuple #[.slice (some ⟨G, 0, none⟩) len len, .int .i64 l.sum, .int .i64 0]) ∧ Own w' w.heap.size 3 1 (.slice (some ⟨G, 0, none⟩) len len) ((sumsOf l).map iC) ∧ Below w.heap.size w w' := by
  obtain ⟨z1, z2, z3⟩ := weightsE_zero hE
  have hl := h.hlen
  rw [List.length_map] at hl
  have hn40 : len ≤ 40 := by omega
  obtain ⟨i0, hi, hz0, hz1, hz2⟩ := info_parts info_int
  have HI := Lib.hid (And.intro hi (And.intro hz0 (And.intro hz1 hz2)))
  have HC := Lib.hid (make_ok a len cap l w h hE)
  have HT := Lib.hid h
  have HL := Lib.hid hl
  have HZ := Lib.hid z2
  obtain ⟨A, hA⟩ : ∃ A, l.sum = A := ⟨_, rfl⟩
  rw [hA] at HC ⊢
  have HA := Lib.hid hA
  clear h hE hi hz0 hz1 hz2 z1 z2 z3 hl hA
  go_enter Try.func28, Try.ntmps28
  go_wp2_with fail
  refine HC.out.mono ?_
  rintro e w1 ⟨O, R, rfl, hM1, hb1⟩
  have hb2 := hb1.alloc hb1.size (.cells #[.int .i64 A, .slice (some ⟨O, 0, none⟩) len len, .slice (some ⟨R, 0, none⟩) len len] 72)
  have HB2 := Lib.hid hb2
  have hG := hb2.size
  clear hM1 hb1 hb2 HC
  generalize hW2 : w1.alloc (.cells #[.int .i64 A, .slice (some ⟨O, 0, none⟩) len len, .slice (some ⟨R, 0, none⟩) len len] 72) = W2 at *
  go_wp2_with (at_make; refine wpList_make_full _ rfl _ _ 26 rfl W2.heap.size 3 i0 (.int .i64 0) 1 Try.underlying26 HI.out.1 HI.out.2.1 HI.out.2.2.1 _ _ _ _ len rfl rfl rfl rfl (by rw [HI.out.2.2.2]; omega) (by unfold maxLen; omega) (Nat.le_refl _) ?_; intro w3 hO3 hg3)
  have hO4 : Own w3 W2.heap.size 3 1 (.slice (some ⟨W2.heap.size, 0, none⟩) len len) ((sumsTo l 0).map iC) := by
    rw [sumsTo_zero, HL.out]
    exact Own.full hO3 (made_ints len)
  have HO4 := Lib.hid hO4
  have HB3 := Lib.hid (below_on HB2.out ((Below.refl _ _).grown hg3 (Nat.le_refl _) (fun j hj => by cases hj)))
  clear hO3 hg3 hO4 HI HB2 hW2
  generalize W2.heap.size = G at *
  go_loopg [8, 24] len (fun g c i wr => ∃ (k : Nat) (S : Int), k + g = len ∧ i = .int .i64 k ∧ c = .int .i64 S ∧ 0 ≤ S ∧ S ≤ (k : Int) * 1000000000000 ∧ Hid (S = pre l k) ∧ Hid (Own wr G 3 1 (.slice (some ⟨G, 0, none⟩) len len) ((sumsTo l k).map iC)) ∧ Hid (Below w.heap.size w wr))
  case atStart => exact ⟨0, 0, by omega, rfl, rfl, by omega, by omega, Lib.hid (pre_zero l).symm, HO4, HB3⟩
  case round =>
    clear HO4 HB3
    obtain ⟨k, S, hk0, rfl, rfl, hS0, hS1, HS, HO, HW⟩ := hrel
    have HJ := Lib.hid hk0
    have hk : k ≤ len := by omega
    clear hk0
    by_cases hlt : k < len
    · obtain ⟨x, hx⟩ : ∃ x, l[k]? = some x := ⟨_, List.getElem?_eq_getElem (by rw [HL.out]; exact hlt)⟩
      obtain ⟨b1, o1, ha, hbs, c0⟩ := HT.out.one HW.out (map_get hx)
      have bx := HZ.out x (List.mem_of_getElem? hx)
      have bx1 := bx.1
      have bx2 := bx.2
      have HP : Hid (S + x = pre l (k + 1)) := Lib.hid (by rw [pre_succ hx, HS.out])
      have hg := sumsTo_get (l := l) (k := k) (by rw [HL.out]; exact hlt)
      obtain ⟨d1, d2, _, _⟩ := HO.out.at1 (map_get hg)
      have hS := HO.out.set1 (map_get hg) (.int .i64 (S + x))
      rw [← show iC (S + x) = [Value.int .i64 (S + x)] from rfl, ← List.map_set, HP.out, sumsTo_succ (by rw [HL.out]; exact hlt), ← HP.out] at hS
      have HS2 := Lib.hid hS
      have HB4 := Lib.hid (HW.out.setCell (p := ⟨G, k, none⟩) hG (.int .i64 (S + x)))
      subst ha
      clear hx bx hg hS
      go_wp2_with fail
      go_roundg (len - (k + 1))
      case measure => have := HJ.out; omega
      case rel => exact ⟨k + 1, S + x, by omega, by go_num, by go_num, by omega, by omega, HP, HS2, HB4⟩
    · obtain rfl : k = len := by omega
      have hv := HO.out
      rw [← HL.out, sumsTo_all, HL.out] at hv
      obtain rfl : S = A := by rw [HS.out, ← HA.out]; exact pre_all (by rw [HL.out]; exact Nat.le_refl _)
      clear HS HO
      go_wp2
      go_ret3
      exact ⟨_, rfl, hv.base_le hG, HW.out⟩
end Go.Proofs.Ytfgcmlgdgmcffab
