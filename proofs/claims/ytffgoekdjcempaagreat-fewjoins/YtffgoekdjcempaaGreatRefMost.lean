/- The contract of the document's own majority (culref.Most). -/
import Derived.Test.YtffgoekdjcempaaGreatFewMath
import Derived.Test.YtffgoekdjcempaaGreatShapes
import Derived.WalkKit
import Derived.Deep.LoopGhost
namespace Go.Proofs.YtffgoekdjcempaaGreat
open Go.ChangeShapes Go.WideShapes Go.ChangeAt Go.RowKit
open Few

set_option maxRecDepth 100000 in
set_option maxHeartbeats 2000000 in
theorem refMost_any (a : Option Addr) (len cap : Nat) (l : List Int) (w : World) (h : Tab w a len cap 1 (l.map iC)) (hn : len ≤ 1000000) :
    Calls Tryz.prog 15 #[.slice a len cap] w fun e w' => e = .returned (.tuple #[.int .i64 (mostN l), .bool (mostB l)]) ∧ w' = w := by
  have hl := h.hlen
  rw [List.length_map] at hl
  have HT := Lib.hid h
  have HL := Lib.hid hl
  clear h hl
  go_enter Tryz.func15, Tryz.ntmps15
  go_wp2_with fail
  go_loopg [11] len (fun g i wr => ∃ k : Nat, k + g = len ∧ i = .int .i64 k ∧ Hid (∀ j, j < k → ∀ y, l[j]? = some y → maj l y = false) ∧ w = wr)
  case atStart => exact ⟨0, by omega, rfl, Lib.hid (fun j hj => by omega), rfl⟩
  case round =>
    obtain ⟨k, hk0, rfl, HN, rfl⟩ := hrel
    have HJ := Lib.hid hk0
    have hk : k ≤ len := by omega
    clear hk0
    by_cases hlt : k < len
    · obtain ⟨x, hx⟩ : ∃ x, l[k]? = some x := ⟨_, List.getElem?_eq_getElem (by rw [HL.out]; exact hlt)⟩
      obtain ⟨b1, o1, ha, hbs, d0⟩ := HT.out.one (Below.refl _ _) (map_get hx)
      have HX := Lib.hid hx
      have HA := Lib.hid ha
      subst ha
      clear hx
      go_wp2_with fail
      clear d0
      go_loopg [6, 17] len (fun g n i wr => ∃ j : Nat, j + g = len ∧ i = .int .i64 j ∧ n = .int .i64 (((l.take j).count x : Nat) : Int) ∧ w = wr)
      case atStart => exact ⟨0, by omega, rfl, rfl, rfl⟩
      case round =>
        obtain ⟨j, hj0, rfl, rfl, rfl⟩ := hrel
        have HJ2 := Lib.hid hj0
        have hj : j ≤ len := by omega
        have hc : (l.take j).count x ≤ j := Nat.le_trans List.count_le_length (by rw [List.length_take]; omega)
        clear hj0
        by_cases hjl : j < len
        · obtain ⟨y, hy⟩ : ∃ y, l[j]? = some y := ⟨_, List.getElem?_eq_getElem (by rw [HL.out]; exact hjl)⟩
          obtain ⟨b2, o2, ha2, hbs2, e0⟩ := HT.out.one (Below.refl _ _) (map_get hy)
          obtain ⟨rfl, rfl⟩ : b1 = b2 ∧ o1 = o2 := by cases ha2; exact ⟨rfl, rfl⟩
          have HS := Lib.hid (count_step (x := x) hy)
          clear hy ha2
          by_cases hxy : x = y
          · subst hxy
            have t1 : (x == x) = true := by simp
            rw [if_pos rfl] at HS
            generalize (l.take j).count x = c at *
            go_wp2_with fail
            go_roundg (len - (j + 1))
            case measure => have := HJ2.out; omega
            case rel => exact ⟨j + 1, by omega, by go_num, by rw [HS.out]; rfl, rfl⟩
          · have t1 : (x == y) = false := by simpa using hxy
            rw [if_neg (fun e => hxy e.symm)] at HS
            generalize (l.take j).count x = c at *
            clear hxy
            go_wp2_with fail
            go_roundg (len - (j + 1))
            case measure => have := HJ2.out; omega
            case rel => exact ⟨j + 1, by omega, by go_num, by rw [HS.out]; rfl, rfl⟩
        · obtain rfl : j = len := by omega
          rw [List.take_of_length_le (by rw [HL.out]; exact Nat.le_refl _)] at hc ⊢
          cases hm : maj l x with
          | true =>
            have hm2 : j < 2 * l.count x := by
              have := hm
              unfold maj at this
              rw [decide_eq_true_iff, HL.out] at this
              exact this
            have hr := mostL_at HX.out HN.out hm
            have r1 : mostN l = x := by unfold mostN; rw [hr]; rfl
            have r2 : mostB l = true := by unfold mostB; rw [hr]; rfl
            have R1 := Lib.hid r1
            have R2 := Lib.hid r2
            generalize l.count x = c at *
            clear hm hr r1 r2
            go_wp2_with fail
            go_ret2
            exact ⟨by rw [R1.out, R2.out]; rfl, rfl⟩
          | false =>
            have hm2 : 2 * l.count x ≤ j := by
              have := hm
              unfold maj at this
              rw [decide_eq_false_iff_not, HL.out] at this
              omega
            have HN2 : Hid (∀ i, i < k + 1 → ∀ y, l[i]? = some y → maj l y = false) := Lib.hid (fun i hi y hy => by
              by_cases hik : i = k
              · subst hik
                rw [HX.out, Option.some.injEq] at hy
                rw [← hy]; exact hm
              · exact HN.out i (by omega) y hy)
            generalize l.count x = c at *
            clear hm
            go_wp2_with fail
            go_roundg (j - (k + 1))
            case measure => have := HJ.out; omega
            case rel => exact ⟨k + 1, by omega, by go_num, HN2, rfl⟩
    · obtain rfl : k = len := by omega
      have hr := mostL_none (l := l) (fun j hj => HN.out j (by rw [← HL.out]; exact hj))
      have r1 : mostN l = 0 := by unfold mostN; rw [hr]; rfl
      have r2 : mostB l = false := by unfold mostB; rw [hr]; rfl
      have R1 := Lib.hid r1
      have R2 := Lib.hid r2
      clear hr r1 r2
      go_wp2_with fail
      go_ret2
      exact ⟨by rw [R1.out, R2.out]; rfl, rfl⟩
end Go.Proofs.YtffgoekdjcempaaGreat
