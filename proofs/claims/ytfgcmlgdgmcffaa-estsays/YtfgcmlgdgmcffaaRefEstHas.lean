/- The contracts of the closure of the document's own spread, and of slices.ContainsFunc with it. -/
import Derived.Test.YtfgcmlgdgmcffaaRefEst
namespace Go.Proofs.Ytfgcmlgdgmcffaa
open Go.ChangeShapes Go.WideShapes Go.ChangeAt Go.RowKit
open Est Span

set_option maxHeartbeats 400000 in
theorem wideClo_any (x : Int) (w : World) : Calls Try.prog 51 #[.int .i64 x] w fun e w' => e = .returned (.bool (!okM x)) ∧ w = w' := by
  have H := Lib.hid (within_ref x (-1000000) 1000000 w)
  have hb : (decide (-1000000 ≤ x) && decide (x ≤ 1000000)) = okM x := rfl
  rw [hb] at H
  clear hb
  generalize okM x = c at *
  go_enter Try.func51, Try.ntmps51
  go_wp2_with fail
  refine H.out.mono ?_
  rintro e w1 ⟨rfl, rfl⟩
  go_wp2
  go_ret
  exact ⟨rfl, rfl⟩

set_option maxRecDepth 100000 in
set_option maxHeartbeats 1000000 in
theorem wideIndex_any (a : Option Addr) (len cap : Nat) (l : List Int) (w : World) (h : Tab w a len cap 1 (l.map iC)) :
    Calls Try.prog 63 #[.slice a len cap, .func (.func 51) #[] #[]] w fun e w' => ∃ R : Int, e = .returned (.int .i64 R) ∧ decide (0 ≤ R) = !(l.all okM) ∧ w = w' := by
  have hl := h.hlen
  have hm := h.hmax
  have hle := h.hle
  rw [List.length_map] at hl
  unfold maxLen at hm
  have HT := Lib.hid h
  have HL := Lib.hid hl
  obtain ⟨B, hB⟩ : ∃ B, (l.drop 0).all okM = B := ⟨_, rfl⟩
  rw [show l.all okM = B from hB]
  have HB := Lib.hid hB
  clear h hl hB
  go_enter Try.func63, Try.ntmps63
  go_wp2_with fail
  go_loopg [8] len (fun g i wr => ∃ k : Nat, k + g = len ∧ i = .int .i64 k ∧ Hid ((l.drop k).all okM = B) ∧ wr = w)
  case atStart => exact ⟨0, by omega, rfl, HB, rfl⟩
  case round =>
    clear HB
    obtain ⟨k, hk0, rfl, HB, hwr⟩ := hrel
    rw [hwr]
    clear hwr
    have HJ := Lib.hid hk0
    have hk : k ≤ len := by omega
    clear hk0
    by_cases hlt : k < len
    · obtain ⟨y, hy⟩ : ∃ y, l[k]? = some y := ⟨_, List.getElem?_eq_getElem (by rw [HL.out]; exact hlt)⟩
      obtain ⟨b1, o1, ha, hbs, c0⟩ := HT.out.one (Below.refl _ _) (map_get hy)
      have HX := Lib.hid (wideClo_any y w)
      have HA := Lib.hid (all_at (p := okM) hy)
      rw [HB.out] at HA
      subst ha
      clear hy
      cases hp : okM y with
      | false =>
        rw [hp] at HX HA
        obtain rfl : B = false := HA.out.trans (by simp)
        clear hp
        go_wp2_with fail
        refine HX.out.mono ?_
        rintro e w1 ⟨rfl, rfl⟩
        go_wp2
        go_ret
        exact ⟨(k : Int), rfl, by simp, rfl⟩
      | true =>
        rw [hp] at HX HA
        rw [Bool.true_and] at HA
        clear hp
        go_wp2_with fail
        refine HX.out.mono ?_
        rintro e w1 ⟨rfl, rfl⟩
        go_wp2_with fail
        go_roundg (len - (k + 1))
        case measure => have := HJ.out; omega
        case rel => exact ⟨k + 1, by omega, by go_num, Lib.hid HA.out.symm, rfl⟩
    · obtain rfl : k = len := by omega
      obtain rfl : B = true := by
        rw [← HB.out, List.drop_of_length_le (by rw [HL.out]; omega)]; rfl
      go_wp2
      go_ret
      exact ⟨-1, rfl, by decide, rfl⟩

set_option maxRecDepth 100000 in
set_option maxHeartbeats 1000000 in
theorem wideHas_any (a : Option Addr) (len cap : Nat) (l : List Int) (w : World) (h : Tab w a len cap 1 (l.map iC)) :
    Calls Try.prog 50 #[.slice a len cap, .func (.func 51) #[] #[]] w fun e w' => e = .returned (.bool (!(l.all okM))) ∧ w = w' := by
  have H := Lib.hid (wideIndex_any a len cap l w h)
  clear h
  generalize (!(l.all okM)) = c at *
  go_enter Try.func50, Try.ntmps50
  go_wp2_with fail
  refine H.out.mono ?_
  rintro e w1 ⟨R, rfl, hR, rfl⟩
  have HR := Lib.hid hR
  clear hR
  go_wp2
  go_ret
  exact ⟨by rw [← HR.out]; rfl, rfl⟩

end Go.Proofs.Ytfgcmlgdgmcffaa
