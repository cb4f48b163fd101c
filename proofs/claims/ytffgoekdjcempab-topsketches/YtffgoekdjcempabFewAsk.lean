/- The contract of the program's few.Ask. -/
import Derived.Test.YtffgoekdjcempabGr33
import Derived.Test.YtffgoekdjcempabFewFind
import Derived.Test.YtffgoekdjcempabFewSum
import Derived.OwnWalk
namespace Go.Proofs.Ytffgoekdjcempab
open Go.ChangeShapes Go.WideShapes Go.ChangeAt Go.RowKit
open Few

namespace Few
theorem at_yes {C : List (Int × Int)} {key : Int} {i : Nat} (ho : C.Pairwise (fun a b => a.1 < b.1)) (h : At C key i true) : C[i]? = some (key, oft key C) := by
  obtain ⟨m, hm⟩ := h.yes rfl
  have := oft_of ho (List.mem_of_getElem? hm)
  simp only at this
  rw [this]; exact hm
theorem at_no {C : List (Int × Int)} {key : Int} {i : Nat} (ho : C.Pairwise (fun a b => a.1 < b.1)) (h : At C key i false) : oft key C = 0 := by
  refine oft_none fun c hc => ?_
  obtain ⟨j, hj⟩ := List.mem_iff_getElem?.1 hc
  rcases Nat.lt_trichotomy j i with hji | rfl | hji
  · have := h.lo j c hji hj; omega
  · have := h.no rfl c hj; omega
  · obtain ⟨d, hd⟩ : ∃ d, C[i]? = some d := ⟨_, List.getElem?_eq_getElem (by have := (List.getElem?_eq_some_iff.1 hj).1; omega)⟩
    have h1 := h.no rfl d hd
    have h2 := at_lt ho hd hj hji
    omega
end Few

set_option maxRecDepth 100000 in
set_option maxHeartbeats 2000000 in
theorem fewAsk_bad (K L : Int) (a : Option Addr) (len cap : Nat) (C : List (Int × Int)) (key : Int) (w : World) (h : Tab w a len cap 2 (C.map iiC)) (hE : fewE K L C ≠ 0) :
    Calls Try.prog 43 #[fewV K L a len cap, .int .i64 key] w fun e w' => e = .returned (.tuple #[.int .i64 0, .int .i64 0, .int .i64 (fewE K L C)]) ∧ Below w.heap.size w w' := by
  have hb0 : Below w.heap.size w (w.alloc (.cells #[.int .i64 K, .int .i64 L, .slice a len cap] 30)) := (Below.refl _ _).alloc (Nat.le_refl _) _
  have k1 := (MapKept.heap_alloc w (.cells #[.int .i64 K, .int .i64 L, .slice a len cap] 30)).1
  obtain ⟨v0, hv0⟩ : ∃ v, w.alloc (.cells #[.int .i64 K, .int .i64 L, .slice a len cap] 30) = v := ⟨_, rfl⟩
  rw [hv0] at hb0 k1
  have HC := Lib.hid (fewCheck_any K L a len cap C v0 (h.below hb0))
  unfold fewV at HC ⊢
  have t : (fewE K L C != 0) = true := by simpa using hE
  generalize fewE K L C = E at *
  have HV := Lib.hid hv0
  have HB0 := Lib.hid hb0
  have K1 := Lib.hid k1
  clear h hE hv0 hb0 k1
  go_enter Try.func43, Try.ntmps43
  go_upto_region 1 with fail
  rw [HV.out]
  obtain ⟨X, hX⟩ : ∃ X, w.heap.size = X := ⟨_, rfl⟩
  rw [hX] at K1 ⊢
  clear HV hX
  obtain ⟨⟨a0, a1, a2⟩, _⟩ := three_all K1.out
  go_wp2_with fail
  clear a0 a1 a2
  refine HC.out.mono ?_
  rintro e w1 ⟨rfl, hb1⟩
  have HB1 := Lib.hid (below_on HB0.out hb1)
  clear hb1
  go_wp2
  go_ret3
  exact ⟨rfl, HB1.out⟩

set_option maxRecDepth 100000 in
set_option maxHeartbeats 2000000 in
theorem fewAsk_ok (K L : Int) (a : Option Addr) (len cap : Nat) (C : List (Int × Int)) (key : Int) (w : World) (h : Tab w a len cap 2 (C.map iiC)) (hG : Few.Good K L C) :
    Calls Try.prog 43 #[fewV K L a len cap, .int .i64 key] w fun e w' => e = .returned (.tuple #[.int .i64 (oft key C), .int .i64 (oft key C + L), .int .i64 0]) ∧ Below w.heap.size w w' := by
  have hb0 : Below w.heap.size w (w.alloc (.cells #[.int .i64 K, .int .i64 L, .slice a len cap] 30)) := (Below.refl _ _).alloc (Nat.le_refl _) _
  have k1 := (MapKept.heap_alloc w (.cells #[.int .i64 K, .int .i64 L, .slice a len cap] 30)).1
  obtain ⟨v0, hv0⟩ : ∃ v, w.alloc (.cells #[.int .i64 K, .int .i64 L, .slice a len cap] 30) = v := ⟨_, rfl⟩
  rw [hv0] at hb0 k1
  have hCk := fewCheck_any K L a len cap C v0 (h.below hb0)
  rw [fewE_zero.2 hG] at hCk
  have HC := Lib.hid hCk
  unfold fewV at HC ⊢
  have hl := h.hlen
  rw [List.length_map] at hl
  have hlen : len ≤ 16 := by have := hG.len; have := hG.k2; omega
  have HF := Lib.hid (fun (W : World) (hb : Below w.heap.size w W) => find_any a len cap C key W (h.below hb) hG.ord (by omega))
  have HT := Lib.hid h
  have HL := Lib.hid hl
  have HY := Lib.hid (fun i => at_yes (C := C) (key := key) (i := i) hG.ord)
  have HN := Lib.hid (fun i => at_no (C := C) (key := key) (i := i) hG.ord)
  have hob : 0 ≤ oft key C ∧ oft key C ≤ 1000000000000 := by
    refine ⟨oft_pos (fun c hc => by have := (hG.num c hc).1; omega) key, ?_⟩
    by_cases h0 : oft key C = 0
    · rw [h0]; decide
    · obtain ⟨c, hc, e⟩ := oft_has h0
      rw [← e, oft_of hG.ord hc]
      exact (hG.num c hc).2
  have ho1 := hob.1
  have ho2 := hob.2
  have hl1 := hG.l1
  have hl2 := hG.l2
  generalize oft key C = z at *
  have HV := Lib.hid hv0
  have HB0 := Lib.hid hb0
  have K1 := Lib.hid k1
  clear h hG hv0 hb0 k1 hCk hl hob
  go_enter Try.func43, Try.ntmps43
  go_upto_region 1 with fail
  rw [HV.out]
  obtain ⟨X, hX⟩ : ∃ X, w.heap.size = X := ⟨_, rfl⟩
  rw [hX] at K1 ⊢
  clear HV hX
  obtain ⟨⟨a0, a1, a2⟩, _⟩ := three_all K1.out
  go_wp2_with fail
  clear a0 a1 a2
  refine HC.out.mono ?_
  rintro e w1 ⟨rfl, hb1⟩
  have HB1 := Lib.hid (below_on HB0.out hb1)
  replace K1 := Lib.hid (kept_blk hb1 K1.out)
  have HF1 := Lib.hid (HF.out w1 HB1.out)
  clear hb1 HC HB0 HF
  obtain ⟨⟨a0, a1, a2⟩, _⟩ := three_all K1.out
  go_wp2_with fail
  clear a0 a1 a2
  refine HF1.out.mono ?_
  rintro e w2 ⟨i, f, rfl, hA, hb2⟩
  have HB2 := Lib.hid (below_on HB1.out hb2)
  replace K1 := Lib.hid (kept_blk hb2 K1.out)
  have HA := Lib.hid hA
  clear hb2 HF1 HB1 hA
  obtain ⟨⟨a0, a1, a2⟩, _⟩ := three_all K1.out
  cases f
  · have hz0 := HN.out i HA.out
    subst hz0
    clear HY HN
    go_upto_region 8 with fail
    go_cut [4, 5, 6] (fun p q r wx => p = .int .i64 0 ∧ q = .int .i64 (0 + L) ∧ r = .int .i64 0 ∧ Hid (Below w2.heap.size w2 wx))
    case first =>
      go_wp2_with fail
      go_quiet (fail)
      go_wp2_with fail
      go_meet
      case rel => exact ⟨by go_num, by go_num, rfl, Lib.hid (below_drewN (Below.refl _ _) _)⟩
    case rest =>
    obtain ⟨rfl, rfl, rfl, HQ⟩ := hcut
    have HB3 := Lib.hid (below_on HB2.out HQ.out)
    clear HQ a0 a1 a2
    go_wp2
    go_ret3
    exact ⟨rfl, HB3.out⟩
  · have hc := HY.out i HA.out
    obtain ⟨b1, o1, ha1, hbs1, c0, c1⟩ := HT.out.two HB2.out (map_get hc)
    have hil : i < len := by rw [← HL.out]; exact (List.getElem?_eq_some_iff.1 hc).1
    subst ha1
    clear hc HY HN c0
    go_upto_region 8 with fail
    go_cut [4, 5, 6] (fun p q r wx => p = .int .i64 z ∧ q = .int .i64 (z + L) ∧ r = .int .i64 0 ∧ Hid (Below w2.heap.size w2 wx))
    case first =>
      go_wp2_with fail
      go_quiet (fail)
      go_wp2_with fail
      go_meet
      case rel => exact ⟨rfl, by go_num, rfl, Lib.hid (below_drewN (Below.refl _ _) _)⟩
    case rest =>
    obtain ⟨rfl, rfl, rfl, HQ⟩ := hcut
    have HB3 := Lib.hid (below_on HB2.out HQ.out)
    clear HQ a0 a1 a2 c1
    go_wp2
    go_ret3
    exact ⟨rfl, HB3.out⟩
end Go.Proofs.Ytffgoekdjcempab
