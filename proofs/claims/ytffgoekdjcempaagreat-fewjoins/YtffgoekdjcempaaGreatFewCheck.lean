/- The contracts of the program's few.isWeight and few.Check. -/
import Derived.Test.YtffgoekdjcempaaGreatFewMath
import Derived.Test.YtffgoekdjcempaaGreatFewBox
namespace Go.Proofs.YtffgoekdjcempaaGreat
open Go.ChangeShapes Go.WideShapes Go.ChangeAt Go.RowKit
open Few

theorem isWeight_any (n : Int) (w : World) (c : Bool) (hc : c = true ↔ 1 ≤ n ∧ n ≤ 1000000000000) : Calls Tryz.prog 17 #[.int .i64 n] w fun e w' => e = .returned (.bool c) ∧ w' = w := by
  by_cases h1 : 1 ≤ n
  · by_cases h2 : n ≤ 1000000000000
    · obtain rfl : c = true := hc.2 ⟨h1, h2⟩
      clear hc
      go_enter Tryz.func17, Tryz.ntmps17
      go_wp2
      go_ret
      exact ⟨rfl, rfl⟩
    · obtain rfl : c = false := by
        cases c with
        | false => rfl
        | true => exact absurd (hc.1 rfl).2 h2
      have t : decide (n ≤ 1000000000000) = false := decide_eq_false h2
      clear hc h2
      go_enter Tryz.func17, Tryz.ntmps17
      go_wp2
      go_ret
      exact ⟨rfl, rfl⟩
  · obtain rfl : c = false := by
      cases c with
      | false => rfl
      | true => exact absurd (hc.1 rfl).1 h1
    have t : decide (1 ≤ n) = false := decide_eq_false h1
    clear hc h1
    go_enter Tryz.func17, Tryz.ntmps17
    go_wp2
    go_ret
    exact ⟨rfl, rfl⟩

set_option maxRecDepth 100000 in
set_option maxHeartbeats 2000000 in
theorem fewCheck_any (K L : Int) (a : Option Addr) (len cap : Nat) (C : List (Int × Int)) (w : World) (h : Tab w a len cap 2 (C.map iiC)) :
    Calls Tryz.prog 8 #[fewV K L a len cap] w fun e w' => e = .returned (.int .i64 (fewE K L C)) ∧ Below w.heap.size w w' := by
  unfold fewV
  have hb : Below w.heap.size w (w.alloc (.cells #[.int .i64 K, .int .i64 L, .slice a len cap] 24)) := (Below.refl _ _).alloc (Nat.le_refl _) _
  have HB := Lib.hid hb
  have hl := h.hlen
  rw [List.length_map] at hl
  have hm := h.hmax
  unfold maxLen at hm
  have hle := h.hle
  clear hb
  by_cases h1 : K < 1
  · rw [fewE_arg (Or.inl h1)]
    clear h hl
    go_enter Tryz.func8, Tryz.ntmps8
    go_wp2
    go_ret
    exact ⟨rfl, HB.out⟩
  have h1' : 1 ≤ K := by omega
  by_cases h2 : 16 < K
  · rw [fewE_arg (Or.inr (Or.inl h2))]
    clear h hl h1
    go_enter Tryz.func8, Tryz.ntmps8
    go_wp2
    go_ret
    exact ⟨rfl, HB.out⟩
  have h2' : K ≤ 16 := by omega
  by_cases h3 : L < 0
  · rw [fewE_arg (Or.inr (Or.inr (Or.inl h3)))]
    clear h hl h1 h2
    go_enter Tryz.func8, Tryz.ntmps8
    go_wp2
    go_ret
    exact ⟨rfl, HB.out⟩
  have h3' : 0 ≤ L := by omega
  by_cases h4 : 1000000000000 < L
  · rw [fewE_arg (Or.inr (Or.inr (Or.inr h4)))]
    clear h hl h1 h2 h3
    go_enter Tryz.func8, Tryz.ntmps8
    go_wp2
    go_ret
    exact ⟨rfl, HB.out⟩
  have h4' : L ≤ 1000000000000 := by omega
  by_cases h5 : K < (len : Int)
  · rw [fewE_large h1' h2' h3' h4' (by omega)]
    clear h hl h1 h2 h3 h4
    go_enter Tryz.func8, Tryz.ntmps8
    go_wp2
    go_ret
    exact ⟨rfl, HB.out⟩
  have h5' : (len : Int) ≤ K := by omega
  rw [fewE_keys h1' h2' h3' h4' (by omega)]
  obtain ⟨E, hE⟩ : ∃ E, keyE none C = E := ⟨_, rfl⟩
  rw [hE]
  have HE0 : Hid (keyE (prevK C 0) (C.drop 0) = E) := Lib.hid hE
  have HT := Lib.hid h
  have HL := Lib.hid hl
  have HX := Lib.hid (MapKept.heap_alloc w (.cells #[.int .i64 K, .int .i64 L, .slice a len cap] 24)).1
  obtain ⟨v0, hv0⟩ : ∃ v, w.alloc (.cells #[.int .i64 K, .int .i64 L, .slice a len cap] 24) = v := ⟨_, rfl⟩
  rw [hv0] at HB HX
  have HV := Lib.hid hv0
  clear h hl hE h1 h2 h3 h4 h5 hv0
  go_enter Tryz.func8, Tryz.ntmps8
  go_upto_region 1 with fail
  rw [HV.out]
  obtain ⟨X, hX⟩ : ∃ X, w.heap.size = X := ⟨_, rfl⟩
  rw [hX] at HX ⊢
  clear HV hX
  obtain ⟨c0, c1, c2⟩ := three_cells HX.out
  go_wp2_with fail
  clear c0 c1 c2
  go_loopg [32] len (fun g i wr => ∃ k : Nat, k + g = len ∧ i = .int .i64 k ∧ Hid (keyE (prevK C k) (C.drop k) = E) ∧ Hid (Below v0.heap.size v0 wr))
  case atStart => exact ⟨0, by omega, rfl, HE0, Lib.hid (Below.refl _ _)⟩
  case round =>
    clear HE0
    obtain ⟨k, hk0, rfl, HE, HQ⟩ := hrel
    have HJ := Lib.hid hk0
    have hk : k ≤ len := by omega
    clear hk0
    have HBW := Lib.hid (below_on HB.out HQ.out)
    by_cases hlt : k < len
    · obtain ⟨⟨key, n⟩, hx⟩ : ∃ x, C[k]? = some x := ⟨_, List.getElem?_eq_getElem (by rw [HL.out]; exact hlt)⟩
      obtain ⟨b1, o1, ha, hbs, d0, d1⟩ := HT.out.two HBW.out (map_get hx)
      have hA := key_at (prevK C k) hx
      rw [HE.out] at hA
      have HA := Lib.hid hA
      have HP := Lib.hid (prev_succ hx)
      have hal : Below wr.heap.size wr (wr.alloc (.cells #[.int .i64 key, .int .i64 n] 37)) := (Below.refl _ _).alloc (Nat.le_refl _) _
      have kc := (MapKept.heap_alloc wr (.cells #[.int .i64 key, .int .i64 n] 37)).1
      obtain ⟨w1, hw1⟩ : ∃ v, wr.alloc (.cells #[.int .i64 key, .int .i64 n] 37) = v := ⟨_, rfl⟩
      rw [hw1] at hal kc
      have HV1 := Lib.hid hw1
      have HQ1 := Lib.hid (below_on HQ.out hal)
      have HB1 := Lib.hid (below_on HBW.out hal)
      have HXX := Lib.hid hx
      obtain ⟨f0, f1, f2⟩ := three_cells (kept_blk HQ1.out HX.out)
      simp only at HA
      clear hA hx hal hw1
      subst ha
      go_upto_region 8 with fail
      rw [HV1.out]
      obtain ⟨Y, hY⟩ : ∃ Y, wr.heap.size = Y := ⟨_, rfl⟩
      rw [hY] at kc ⊢
      clear HV1 hY d0 d1
      obtain ⟨e0, e1⟩ := pair_cells kc
      clear kc
      by_cases g1 : n < 1 ∨ 1000000000000 < n
      · obtain rfl : E = 1 := by rw [HA.out, if_pos g1]
        have CI := Lib.hid (fun W => isWeight_any n W false (by constructor <;> intro h; cases h; omega))
        clear g1 HA
        go_wp2_with fail
        refine (CI.out _).mono ?_
        rintro e w2 ⟨rfl, hw⟩
        rw [hw]
        clear hw
        go_wp2
        go_ret
        exact ⟨rfl, HB1.out⟩
      have CI := Lib.hid (fun W => isWeight_any n W true (by constructor <;> intro h; omega; rfl))
      rw [if_neg g1] at HA
      clear g1
      by_cases k0 : k = 0
      · subst k0
        rw [if_neg (show ¬ late (prevK C 0) key = true from by simp [late, prevK])] at HA
        go_wp2_with fail
        refine (CI.out _).mono ?_
        rintro e w2 ⟨rfl, hw⟩
        rw [hw]
        clear hw
        go_wp2_with fail
        go_quiet (fail)
        go_wp2_with fail
        go_roundg (len - 1)
        case measure => have := HJ.out; omega
        case rel => exact ⟨1, by omega, by go_num, Lib.hid (by rw [HP.out]; exact HA.out.symm), Lib.hid (below_drewN HQ1.out _)⟩
      · have hk1 : 0 < k := by omega
        have gt1 : decide ((k : Int) > 0) = true := by rw [decide_eq_true_iff]; omega
        obtain ⟨⟨key0, n0⟩, hx0⟩ : ∃ x, C[k - 1]? = some x := ⟨_, List.getElem?_eq_getElem (by rw [HL.out]; omega)⟩
        obtain ⟨b2, o2, ha2, _, q0, q1⟩ := HT.out.two HB1.out (map_get hx0)
        obtain ⟨rfl, rfl⟩ : b1 = b2 ∧ o1 = o2 := by cases ha2; exact ⟨rfl, rfl⟩
        have hpv : prevK C k = some key0 := by
          obtain ⟨m, rfl⟩ : ∃ m, k = m + 1 := ⟨k - 1, by omega⟩
          exact prev_succ hx0
        rw [hpv] at HA
        have hi1 : ((k : Int) - 1).toNat = k - 1 := by omega
        clear hx0 ha2 hpv k0 q1
        by_cases g3 : key ≤ key0
        · obtain rfl : E = 3 := by rw [HA.out, if_pos (by simp [late, g3])]
          clear HA
          go_wp2_with fail
          refine (CI.out _).mono ?_
          rintro e w2 ⟨rfl, hw⟩
          rw [hw]
          clear hw
          go_wp2_with fail
          go_quiet (fail)
          go_wp2
          go_ret
          exact ⟨rfl, below_drewN HB1.out _⟩
        · rw [if_neg (by simpa [late] using g3)] at HA
          have t3 : decide (key ≤ key0) = false := decide_eq_false g3
          have g3' : key0 < key := by omega
          clear g3
          go_wp2_with fail
          refine (CI.out _).mono ?_
          rintro e w2 ⟨rfl, hw⟩
          rw [hw]
          clear hw
          go_wp2_with fail
          go_quiet (fail)
          go_wp2_with fail
          go_roundg (len - (k + 1))
          case measure => have := HJ.out; omega
          case rel => exact ⟨k + 1, by omega, by go_num, Lib.hid (by rw [HP.out]; exact HA.out.symm), Lib.hid (below_drewN HQ1.out _)⟩
    · obtain rfl : k = len := by omega
      obtain rfl : E = 0 := by rw [← HE.out, List.drop_of_length_le (by rw [HL.out]; omega)]; cases prevK C k <;> rfl
      go_wp2
      go_ret
      exact ⟨rfl, HBW.out⟩
end Go.Proofs.YtffgoekdjcempaaGreat
