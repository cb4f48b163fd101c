/- The contract of slices.MinFunc on a slice of ints that is not empty, for a closure with one captured variable that compares two elements and turns nothing old. -/
import Derived.Test.YtoijeafhohcbdaaAlikeMath
import Derived.Test.YtoijeafhohcbdaaOwnMore
import Derived.Deep.LoopGhost
import Derived.WalkKit
namespace Go.Proofs.Ytoijeafhohcbdaa
open Go.ChangeShapes Go.WideShapes Go.ChangeAt Go.RowKit
open Alk

set_option maxRecDepth 100000 in
set_option maxHeartbeats 1000000 in
theorem minFunc_any (F : Nat) (q : Option Addr) (c : Int → Int → Int) (a : Option Addr) (len cap : Nat) (l : List Int) (w : World) (h : Tab w a len cap 1 (l.map iC)) (hne : l ≠ [])
    (hrun : ∀ (x y : Int) (W : World), (callFunc F #[.int .i64 x, .int .i64 y, .pointer q]).run Try.prog W = .ok (.enter F #[.int .i64 x, .int .i64 y, .pointer q]) W)
    (hmem : ∀ k, 1 ≤ k → k ≤ l.length → minC c (l.take k) ∈ l)
    (hF : ∀ x ∈ l, ∀ y ∈ l, ∀ W : World, Below w.heap.size w W → Calls Try.prog F #[.int .i64 x, .int .i64 y, .pointer q] W fun e w' => e = .returned (.int .i64 (c x y)) ∧ Below W.heap.size W w') :
    Calls Try.prog 47 #[.slice a len cap, .func (.func F) #[] #[.pointer q]] w fun e w' => e = .returned (.int .i64 (minC c l)) ∧ Below w.heap.size w w' := by
  have hl := h.hlen
  have hm := h.hmax
  have hle := h.hle
  rw [List.length_map] at hl
  unfold maxLen at hm
  have h1 : 1 ≤ len := by cases l with | nil => exact absurd rfl hne | cons _ _ => simp at hl; omega
  obtain ⟨x0, hx0⟩ : ∃ x, l[0]? = some x := ⟨_, List.getElem?_eq_getElem (by omega)⟩
  have HT := Lib.hid h
  have HL := Lib.hid hl
  have HF := Lib.hid hF
  have HM := Lib.hid hmem
  have H1 := Lib.hid (minC_one c hx0)
  obtain ⟨r, hr⟩ : ∃ r, minC c l = r := ⟨_, rfl⟩
  rw [hr]
  have HR := Lib.hid hr
  obtain ⟨b0, o0, ha0, hbs0, c0⟩ := h.one (Below.refl _ _) (map_get hx0)
  rw [Nat.add_zero] at c0
  clear h hl hF hr hmem hne hx0
  rw [ha0]
  have HA0 := Lib.hid ha0
  clear ha0
  go_enter Try.func47, Try.ntmps47
  go_wp2_with fail
  clear c0
  go_loopg [5, 6] (len - 1) (fun g m i wr => ∃ k : Nat, k + g = len ∧ 1 ≤ k ∧ i = .int .i64 k ∧ m = .int .i64 (minC c (l.take k)) ∧ Hid (Below w.heap.size w wr))
  case atStart => exact ⟨1, by omega, by omega, rfl, by rw [H1.out], Lib.hid (Below.refl _ _)⟩
  case round =>
    obtain ⟨k, hk0, hk1, rfl, rfl, HW⟩ := hrel
    have HJ := Lib.hid hk0
    have hk : k ≤ len := by omega
    clear hk0
    by_cases hlt : k < len
    · obtain ⟨x, hx⟩ : ∃ x, l[k]? = some x := ⟨_, List.getElem?_eq_getElem (by rw [HL.out]; exact hlt)⟩
      obtain ⟨b1, o1, ha, hbs, c0⟩ := HT.out.one HW.out (map_get hx)
      rw [HA0.out] at ha
      simp only [Option.some.injEq, Addr.mk.injEq, and_true] at ha
      obtain ⟨rfl, rfl⟩ := ha
      have HX := Lib.hid (HF.out x (List.mem_of_getElem? hx) _ (HM.out k hk1 (by rw [HL.out]; exact hk)) wr HW.out)
      have HN := Lib.hid (minC_succ c hk1 hx)
      generalize minC c (l.take k) = m at *
      clear hx HF
      by_cases hp : c x m < 0
      · rw [if_pos hp] at HN
        generalize c x m = d at *
        go_wp2_with fail
        refine HX.out.mono ?_
        rintro e w1 ⟨rfl, hb⟩
        have HB := Lib.hid (below_on HW.out hb)
        have c1 : w1.cell? ⟨b0, o0 + k, none⟩ = some (.int .i64 x) := (HB.out.cell (p := ⟨b0, o0 + k, none⟩) hbs).trans ((HW.out.cell (p := ⟨b0, o0 + k, none⟩) hbs).symm.trans c0)
        clear hb c0
        go_wp2_with fail
        go_roundg (len - (k + 1))
        case measure => have := HJ.out; omega
        case rel => exact ⟨k + 1, by omega, by omega, by go_num, by rw [HN.out], HB⟩
      · rw [if_neg hp] at HN
        have hp' : 0 ≤ c x m := by omega
        clear hp
        generalize c x m = d at *
        go_wp2_with fail
        refine HX.out.mono ?_
        rintro e w1 ⟨rfl, hb⟩
        have HB := Lib.hid (below_on HW.out hb)
        clear hb c0
        go_wp2_with fail
        go_roundg (len - (k + 1))
        case measure => have := HJ.out; omega
        case rel => exact ⟨k + 1, by omega, by omega, by go_num, by rw [HN.out], HB⟩
    · obtain rfl : k = len := by omega
      rw [List.take_of_length_le (by rw [HL.out]; exact Nat.le_refl _), HR.out]
      have HB := HW
      go_wp2
      go_ret
      exact ⟨rfl, HB.out⟩
end Go.Proofs.Ytoijeafhohcbdaa
