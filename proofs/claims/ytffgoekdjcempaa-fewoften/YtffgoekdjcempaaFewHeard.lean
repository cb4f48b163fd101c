/- The contract of the laws' own heard (culkeep.heard): a sketch of all that came. -/
import Derived.Test.YtffgoekdjcempaaFewVar
namespace Go.Proofs.Ytffgoekdjcempaa
open Go.ChangeShapes Go.WideShapes Go.ChangeAt Go.RowKit
open Few

namespace Few
theorem tot_take_le {A : List (Int × Int)} (h : ∀ c ∈ A, 0 ≤ c.2) (k : Nat) : tot (A.take k) ≤ tot A := by
  have e : tot A = tot (A.take k) + tot (A.drop k) := by rw [← tot_append, List.take_append_drop]
  have := (tot_pos (C := A.drop k) (fun c hc => h c (List.mem_of_mem_drop hc))).1
  omega
end Few

set_option maxRecDepth 100000 in
set_option maxHeartbeats 4000000 in
theorem heard_any (K : Int) (a : Option Addr) (len cap : Nat) (A : List (Int × Int)) (w : World) (h : Tab w a len cap 2 (A.map iiC)) (hl1 : len ≤ 100000) (hK1 : 1 ≤ K) (hK2 : K ≤ 16) (hA : ∀ p ∈ A, 1 ≤ p.2 ∧ p.2 ≤ 1000000000000) (hS : tot A ≤ 1000000000000) :
    Calls Try.prog 26 #[.int .i64 K, .slice a len cap] w fun e w' => ∃ (L : Int) (C : List (Int × Int)) (v : Value), e = .returned (.tuple #[.agg #[.int .i64 K, .int .i64 L, v], .bool true]) ∧ Near K A L C ∧ Own w' w.heap.size 43 2 v (C.map iiC) ∧ Below w.heap.size w w' := by
  have hl := h.hlen
  rw [List.length_map] at hl
  have hb0 : Below w.heap.size w ((w.alloc (.cells #[.int .i64 0, .int .i64 0, .slice none 0 0] 39)).alloc (.cells #[.int .i64 K, .int .i64 0, .slice none 0 0] 39)) := ((Below.refl _ _).alloc (Nat.le_refl _) _).alloc (by simp) _
  have k1 : ((w.alloc (.cells #[.int .i64 0, .int .i64 0, .slice none 0 0] 39)).alloc (.cells #[.int .i64 K, .int .i64 0, .slice none 0 0] 39)).heap[w.heap.size]? = some (.cells #[.int .i64 0, .int .i64 0, .slice none 0 0] 39 (0, 0)) := by
    rw [Below.heap_alloc _ _ _ (by simp)]
    exact (MapKept.heap_alloc w _).1
  have k2 : ((w.alloc (.cells #[.int .i64 0, .int .i64 0, .slice none 0 0] 39)).alloc (.cells #[.int .i64 K, .int .i64 0, .slice none 0 0] 39)).heap[w.heap.size + 1]? = some (.cells #[.int .i64 K, .int .i64 0, .slice none 0 0] 39 (0, 0)) := by
    have := (MapKept.heap_alloc (w.alloc (.cells #[.int .i64 0, .int .i64 0, .slice none 0 0] 39)) (.cells #[.int .i64 K, .int .i64 0, .slice none 0 0] 39)).1
    simpa using this
  obtain ⟨v0, hv0⟩ : ∃ v, (w.alloc (.cells #[.int .i64 0, .int .i64 0, .slice none 0 0] 39)).alloc (.cells #[.int .i64 K, .int .i64 0, .slice none 0 0] 39) = v := ⟨_, rfl⟩
  rw [hv0] at hb0 k1 k2
  have HT := Lib.hid h
  have HL := Lib.hid hl
  have HA := Lib.hid hA
  have HS := Lib.hid hS
  have HV := Lib.hid hv0
  have HB0 := Lib.hid hb0
  have R0 := Lib.hid k1
  have F0 := Lib.hid k2
  clear h hl hA hS hv0 hb0 k1 k2
  go_enter Try.func26, Try.ntmps26
  go_upto_region 2 with fail
  rw [HV.out]
  obtain ⟨X, hX⟩ : ∃ X, w.heap.size = X := ⟨_, rfl⟩
  have HX := Lib.hid hX
  rw [hX] at R0 F0 ⊢
  clear HV hX
  have HXb := Lib.hid (show X + 2 ≤ v0.heap.size from (Array.getElem?_eq_some_iff.1 F0.out).1)
  go_wp2_with fail
  go_loopg [15] len (fun g i wr => ∃ (j : Nat) (L : Int) (C : List (Int × Int)) (q : Option Addr) (n c : Nat), j + g = len ∧ i = .int .i64 j ∧ Hid (Near K (A.take j) L C) ∧ Hid (wr.heap[X]? = some (.cells #[.int .i64 0, .int .i64 0, .slice none 0 0] 39 (0, 0))) ∧ Hid (wr.heap[X + 1]? = some (.cells #[.int .i64 K, .int .i64 L, .slice q n c] 39 (0, 0))) ∧ Hid (Own wr (X + 2) 43 2 (.slice q n c) (C.map iiC)) ∧ Hid (Below w.heap.size w wr))
  case atStart => exact ⟨0, 0, [], none, 0, 0, by omega, rfl, Lib.hid (near_nil hK1 hK2), R0, F0, Lib.hid (Own.nil _ _ _ _), HB0⟩
  case round =>
    clear R0 F0 HB0
    obtain ⟨j, L, C, q, n, c, hj0, rfl, HN, R0, F0, HO, HB⟩ := hrel
    have HJ := Lib.hid hj0
    have hj : j ≤ len := by omega
    clear hj0
    have HXw := Lib.hid (show X + 2 ≤ wr.heap.size from (Array.getElem?_eq_some_iff.1 F0.out).1)
    by_cases hlt : j < len
    · obtain ⟨⟨x, m⟩, hx⟩ : ∃ x, A[j]? = some x := ⟨_, List.getElem?_eq_getElem (by rw [HL.out]; exact hlt)⟩
      obtain ⟨b1, o1, ha, hbs, c0, c1⟩ := HT.out.two HB.out (map_get hx)
      have hmb := HA.out _ (List.mem_of_getElem? hx)
      simp only at hmb
      have htk : A.take (j + 1) = A.take j ++ [(x, m)] := by rw [List.take_add_one, hx, Option.toList_some]
      have hle := tot_take_le (A := A) (fun p hp => by have := (HA.out p hp).1; omega) (j + 1)
      rw [htk, tot_append, tot_cons, tot_nil] at hle
      simp only at hle
      obtain ⟨hE, hNp⟩ := near_putE (x := x) HN.out hmb.1 (by have := HS.out; omega) hmb.2
      rw [← htk] at hNp
      have HNp := Lib.hid hNp
      obtain ⟨a1, cap1, hav, hTC⟩ := own_ctrs (n := n) HO.out (by
        have := HO.out.tab_of.hlen
        rw [List.length_map] at this
        exact this)
      have hal : Below wr.heap.size wr (wr.alloc (.cells #[.int .i64 x, .int .i64 m] 43)) := (Below.refl _ _).alloc (Nat.le_refl _) _
      have kc := (MapKept.heap_alloc wr (.cells #[.int .i64 x, .int .i64 m] 43)).1
      obtain ⟨w1, hw1⟩ : ∃ v, wr.alloc (.cells #[.int .i64 x, .int .i64 m] 43) = v := ⟨_, rfl⟩
      rw [hw1] at hal kc
      have HP := fewPut_any K L q n c C x m w1 (HO.out.tab_of.below hal)
      rw [hE] at HP
      replace HP := Lib.hid HP
      have HV1 := Lib.hid hw1
      have HB1 := Lib.hid (below_on HB.out hal)
      have R1 := Lib.hid (kept_blk hal R0.out)
      have F1 := Lib.hid (kept_blk hal F0.out)
      have KC := Lib.hid kc
      have HS1 := Lib.hid hal.size
      subst ha
      clear hx hmb htk hle hE hNp hav hTC hal kc hw1
      go_upto_region 5 with fail
      rw [HV1.out]
      obtain ⟨Y, hY⟩ : ∃ Y, wr.heap.size = Y := ⟨_, rfl⟩
      rw [hY] at KC ⊢
      clear HV1 hY c0 c1
      obtain ⟨e0, e1⟩ := pair_cells KC.out
      obtain ⟨f0, f1, f2⟩ := three_cells F1.out
      unfold fewV at HP
      go_wp2_with fail
      clear e0 e1 f0 f1 f2
      refine HP.out.mono ?_
      rintro e w2 ⟨Kr, Lr, Cr, v2, rfl, hOut, hO2, hb2⟩
      rcases hOut with ⟨_, hKr, hLr, hCr⟩ | ⟨hne, _⟩
      rotate_left
      · exact absurd rfl hne
      replace hKr := hKr.symm
      replace hLr := hLr.symm
      replace hCr := hCr.symm
      subst hKr hLr hCr
      obtain ⟨Z, hZ⟩ : ∃ z, L + putZ K C x m = z := ⟨_, rfl⟩
      obtain ⟨D, hD⟩ : ∃ d, putC K C x m = d := ⟨_, rfl⟩
      rw [hZ, hD] at HNp
      rw [hD] at hO2
      rw [hZ]
      clear hZ hD
      obtain ⟨n2, hn2⟩ : ∃ m, D.length = m := ⟨_, rfl⟩
      obtain ⟨a2, c2, rfl, hT2⟩ := own_ctrs hO2 hn2
      have hal : Below w2.heap.size w2 (w2.alloc (.cells #[.int .i64 K, .int .i64 Z, .slice a2 n2 c2] 39)) := (Below.refl _ _).alloc (Nat.le_refl _) _
      have kc := (MapKept.heap_alloc w2 (.cells #[.int .i64 K, .int .i64 Z, .slice a2 n2 c2] 39)).1
      have hO3 := hO2.below hal
      obtain ⟨w3, hw3⟩ : ∃ v, w2.alloc (.cells #[.int .i64 K, .int .i64 Z, .slice a2 n2 c2] 39) = v := ⟨_, rfl⟩
      rw [hw3] at hal kc hO3
      have HV3 := Lib.hid hw3
      have HB3 := Lib.hid (below_on (below_on HB1.out hb2) hal)
      have R3 := Lib.hid (kept_blk hal (kept_blk hb2 R1.out))
      have F3 := Lib.hid (kept_blk hal (kept_blk hb2 F1.out))
      have KC3 := Lib.hid kc
      have HO3 := Lib.hid (hO3.base_le (B := X + 2) (by have := HXw.out; have := HS1.out; omega))
      clear hO2 hT2 hal kc hO3 hw3 hb2 hn2 HP KC
      go_upto_region 6 with fail
      rw [HV3.out]
      obtain ⟨Y, hY⟩ : ∃ Y, w2.heap.size = Y := ⟨_, rfl⟩
      rw [hY] at KC3 ⊢
      clear HV3 hY
      obtain ⟨⟨e0, e1, e2⟩, _⟩ := three_all KC3.out
      obtain ⟨⟨f0, f1, f2⟩, g0, g1, g2⟩ := three_all F3.out
      have F4 := Lib.hid (three_set (x' := K) (y' := Z) (v' := .slice a2 n2 c2) F3.out)
      have HB4 := Lib.hid (three_below HB3.out (b := X + 1) (by rw [HX.out]; exact Nat.le_succ _) K Z (.slice a2 n2 c2))
      have HO4 := Lib.hid (three_own HO3.out (b := X + 1) (by omega) K Z (.slice a2 n2 c2))
      have R4 : Hid ((((w3.setCell ⟨X + 1, 0, none⟩ (.int .i64 K)).setCell ⟨X + 1, 1, none⟩ (.int .i64 Z)).setCell ⟨X + 1, 2, none⟩ (.slice a2 n2 c2)).heap[X]? = some (.cells #[.int .i64 0, .int .i64 0, .slice none 0 0] 39 (0, 0))) := Lib.hid (by
        rw [Below.heap_setCell _ _ _ _ (show X ≠ X + 1 by omega), Below.heap_setCell _ _ _ _ (show X ≠ X + 1 by omega), Below.heap_setCell _ _ _ _ (show X ≠ X + 1 by omega)]
        exact R3.out)
      go_wp2_with fail
      go_roundg (len - (j + 1))
      case measure => have := HJ.out; omega
      case rel => exact ⟨j + 1, Z, D, a2, n2, c2, by omega, by go_num, HNp, R4, F4, HO4, HB4⟩
    · obtain rfl : j = len := by omega
      rw [List.take_of_length_le (by rw [HL.out]; exact Nat.le_refl _)] at HN
      obtain ⟨⟨x0, x1, x2⟩, _⟩ := three_all F0.out
      obtain ⟨⟨r0, r1, r2⟩, g0, g1, g2⟩ := three_all R0.out
      have Z9 := three_all (three_set (x' := K) (y' := L) (v' := .slice q n c) R0.out)
      have HBZ := Lib.hid (three_below HB.out (b := X) (by rw [HX.out]; exact Nat.le_refl _) K L (.slice q n c))
      have HOZ := Lib.hid ((three_own HO.out (b := X) (by omega) K L (.slice q n c)).base_le (B := w.heap.size) (by rw [HX.out]; omega))
      go_wp2_with fail
      obtain ⟨⟨z0, z1, z2⟩, _⟩ := Z9
      generalize (((wr.setCell { block := X, off := 0 } (Value.int IntKind.i64 K)).setCell { block := X, off := 1 } (Value.int IntKind.i64 L)).setCell { block := X, off := 2 } (Value.slice q n c)) = w9 at *
      clear x0 x1 x2 r0 r1 r2 g0 g1 g2
      try simp only [Exit.inBlock, Exit.then]
      refine bodyPost_ret (by simp [results, Try.results26, go_sem, z0, z1, z2, Result.andThen]; try rfl) rfl ?_
      exact ⟨L, C, _, rfl, HN.out, HOZ.out, HBZ.out⟩
end Go.Proofs.Ytffgoekdjcempaa
