/- The contract of the document's own sorting (culref.Sorted). -/
import Derived.Test.YtanfkolcoaofdaaSortMath
import Derived.Test.YtanfkolcoaofdaaInfoInts
import Derived.Deep.LoopGhost
namespace Go.Proofs.Ytanfkolcoaofdaa
open Go.ChangeShapes Go.WideShapes Go.ChangeAt Go.RowKit
open Digit

set_option maxRecDepth 100000 in
set_option maxHeartbeats 2000000 in
theorem refSorted_any (a : Option Addr) (len cap : Nat) (l : List Int) (w : World) (h : Tab w a len cap 1 (l.map iC)) (h12 : len ≤ 12) :
    Calls Try.prog 38 #[.slice a len cap] w fun e w' => ∃ v o, e = .returned v ∧ IsSorted l o ∧ Own w' w.heap.size 3 1 v (o.map iC) ∧ Below w.heap.size w w' := by
  obtain ⟨i0, hi, hz0, hz1, hz2⟩ := info_parts info_int
  have hl := h.hlen
  rw [List.length_map] at hl
  have HT := Lib.hid h
  have HL := Lib.hid hl
  clear h hl
  go_enter Try.func38, Try.ntmps38
  go_wp2_with (first | (at_make; refine wpList_make_full _ rfl _ _ 22 rfl w.heap.size 3 i0 (.int .i64 0) 1 Try.underlying22 hi hz0 hz1 _ _ _ _ len rfl rfl rfl rfl (by rw [hz2]; omega) (by unfold maxLen; omega) (Nat.le_refl _) ?_; intro w1 hO1 hg1))
  have hO : Own w1 w.heap.size 3 1 (.slice (some ⟨w.heap.size, 0, none⟩) len len) ((List.replicate len 0).map iC) := Own.full hO1 (made_ints len)
  have hb : Below w.heap.size w w1 := (Below.refl _ _).grown hg1 (Nat.le_refl _) (fun j hj => by cases hj)
  have HO := Lib.hid hO
  clear hO hO1 hg1 hi hz0 hz1 hz2
  go_loopg [14] len (fun g i wr => ∃ (k : Nat) (o : List Int), k + g = len ∧ i = .int .i64 (k : Nat) ∧ Hid (Placed l o k ∧ Own wr w.heap.size 3 1 (.slice (some ⟨w.heap.size, 0, none⟩) len len) (o.map iC)) ∧ Below w.heap.size w wr)
  case atStart => exact ⟨0, List.replicate len 0, by omega, rfl, Lib.hid ⟨⟨by rw [List.length_replicate]; exact HL.out.symm, fun i x hi => by omega⟩, HO.out⟩, hb⟩
  case round =>
    clear hb HO
    obtain ⟨k, o, hk0, rfl, HO, hb⟩ := hrel
    have HJ := Lib.hid hk0
    have hk : k ≤ len := by omega
    clear hk0
    by_cases hlt : k < len
    · obtain ⟨x, hx⟩ : ∃ x, l[k]? = some x := ⟨_, List.getElem?_eq_getElem (by rw [HL.out]; exact hlt)⟩
      obtain ⟨b, off, ha, hbs, h0⟩ := HT.out.one hb (map_get hx)
      have HX := Lib.hid hx
      subst ha
      clear hx
      obtain ⟨wo, hwo⟩ : ∃ wo, wo = wr := ⟨_, rfl⟩
      subst hwo
      go_wp2
      go_loopg [6, 21] len (fun g z i wr => wr = wo ∧ ∃ j : Nat, j + g = len ∧ i = .int .i64 (j : Nat) ∧ z = .int .i64 (atTo l x k j : Nat) ∧ atTo l x k j ≤ j)
      case atStart => exact ⟨rfl, 0, by omega, rfl, by simp [atTo, less, cnt], by simp [atTo, less, cnt]⟩
      case round =>
        obtain ⟨rfl, j, hj0, rfl, rfl, hle⟩ := hrel
        have HJ2 := Lib.hid hj0
        have hj : j ≤ len := by omega
        clear hj0
        by_cases hlt2 : j < len
        · obtain ⟨y, hy⟩ : ∃ y, l[j]? = some y := ⟨_, List.getElem?_eq_getElem (by rw [HL.out]; exact hlt2)⟩
          obtain ⟨b2, off2, ha2, hbs2, h02⟩ := HT.out.one hb (map_get hy)
          simp only [Option.some.injEq, Addr.mk.injEq, and_true] at ha2
          obtain ⟨rfl, rfl⟩ := ha2
          have hs := atTo_step (x := x) (i := k) hy
          clear hy
          by_cases hc : y < x ∨ (y = x ∧ j < k)
          · rw [if_pos hc] at hs
            have HS := Lib.hid hs
            clear hs
            generalize atTo l x k j = s at *
            by_cases hyx : y < x
            · clear hc
              go_wp2
              go_roundg (len - (j + 1))
              case measure => have := HJ2.out; omega
              case rel => exact ⟨rfl, j + 1, by omega, by go_num, by rw [HS.out]; go_num, by rw [HS.out]; omega⟩
            · have hyx' : x ≤ y := by omega
              have t1 : ((y : Int) == x) = true := by rw [beq_iff_eq]; omega
              have hjk : j < k := by omega
              clear hc hyx
              go_wp2
              go_roundg (len - (j + 1))
              case measure => have := HJ2.out; omega
              case rel => exact ⟨rfl, j + 1, by omega, by go_num, by rw [HS.out]; go_num, by rw [HS.out]; omega⟩
          · rw [if_neg hc] at hs
            have HS := Lib.hid hs
            clear hs
            generalize atTo l x k j = s at *
            have hyx' : x ≤ y := by omega
            by_cases hyx : y = x
            · have t1 : ((y : Int) == x) = true := by rw [beq_iff_eq]; exact hyx
              have hjk : k ≤ j := by omega
              clear hc hyx
              go_wp2
              go_roundg (len - (j + 1))
              case measure => have := HJ2.out; omega
              case rel => exact ⟨rfl, j + 1, by omega, by go_num, by rw [HS.out]; go_num, by rw [HS.out]; omega⟩
            · have t1 : ((y : Int) == x) = false := by rw [beq_eq_false_iff_ne]; exact hyx
              clear hc hyx
              go_wp2
              go_roundg (len - (j + 1))
              case measure => have := HJ2.out; omega
              case rel => exact ⟨rfl, j + 1, by omega, by go_num, by rw [HS.out]; go_num, by rw [HS.out]; omega⟩
        · obtain rfl : j = len := by omega
          have hat : atTo l x k j = atOf l x k := by
            have := atTo_all l x (i := k) (by rw [HL.out]; exact hk)
            rw [HL.out] at this
            exact this
          have hlt3 : atOf l x k < j := by have := atOf_len HX.out; rw [HL.out] at this; exact this
          obtain ⟨hpl, hO⟩ := HO.out
          obtain ⟨u, hu⟩ : ∃ u, o[atOf l x k]? = some u := ⟨_, List.getElem?_eq_getElem (by rw [hpl.1, HL.out]; exact hlt3)⟩
          obtain ⟨c1, f1, g1, g2⟩ := hO.at1 (map_get hu)
          have HS := Lib.hid (hO.set1 (map_get hu) (.int .i64 x))
          have HP := Lib.hid (placed_step hpl HX.out)
          rw [hat]
          clear hat hpl hO hu HO hle
          generalize hq : atOf l x k = q at *
          clear hq
          go_wp2
          go_roundg (j - (k + 1))
          case measure => have := HJ.out; omega
          case rel =>
            refine ⟨k + 1, o.set q x, by omega, by go_num, Lib.hid ⟨HP.out, ?_⟩, hb.setCell g1 _⟩
            have := HS.out
            rw [← show iC x = [Value.int .i64 x] from rfl, ← List.map_set] at this
            exact this
    · obtain rfl : k = len := by omega
      have hp := HO.out.1
      rw [← HL.out] at hp
      have HF := Lib.hid (placed_all hp)
      clear hp
      go_wp2
      go_ret
      exact ⟨_, o, rfl, HF.out, HO.out.2, hb⟩

end Go.Proofs.Ytanfkolcoaofdaa
