/- The contracts of the document's own answers on combinations: Ways, Comb, CombRank, Some. -/
import Derived.Test.YtanfkolcoaofdaaRefCombMath
import Derived.Test.YtanfkolcoaofdaaRefWithin
import Derived.Test.YtanfkolcoaofdaaInfoInts
import Derived.Test.YtanfkolcoaofdaaOwnMore
import Derived.Test.YtanfkolcoaofdaaSubSlice
import Derived.RegionTactic
import Derived.BigRegion
import Derived.Deep.LoopGhost
namespace Go.Proofs.Ytanfkolcoaofdaa
open Go.ChangeShapes Go.WideShapes Go.ChangeAt Go.RowKit
open Binom

set_option maxRecDepth 100000 in
set_option maxHeartbeats 2000000 in
theorem refWays_any (n k : Nat) (hn : n ≤ 30) (w : World) :
    Calls Try.prog 31 #[.int .i64 n, .int .i64 k] w fun e w' => e = .returned (.int .i64 (binom n k : Nat)) ∧ Below w.heap.size w w' := by
  obtain ⟨i0, hi, hz0, hz1, hz2⟩ := info_parts info_int
  obtain ⟨N, hN⟩ : ∃ N : Nat, (n : Int) + 2 = (N : Int) := ⟨n + 2, by omega⟩
  have hN2 : N = n + 2 := by omega
  have HN := Lib.hid hN2
  have hN3 : N ≤ 32 := by omega
  have hN4 : n < N := by omega
  clear hN2
  go_enter Try.func31, Try.ntmps31
  have hat0 : ((List.replicate N (0 : Int)).map iC)[0]? = some [.int .i64 0] := by rw [List.getElem?_map, List.getElem?_replicate, if_pos (by omega)]; rfl
  have HA0 := Lib.hid hat0
  clear hat0
  go_wp2_with (first | (at_make; refine wpList_make_full _ rfl _ _ 22 rfl w.heap.size 3 i0 (.int .i64 0) 1 Try.underlying22 hi hz0 hz1 _ _ _ _ N rfl rfl rfl rfl (by rw [hz2]; omega) (by unfold maxLen; omega) (Nat.le_refl _) ?_; intro w1 hO1 hg1; have hO := Own.full hO1 (made_ints N); obtain ⟨c1, f1, p1, p2⟩ := hO.at1 HA0.out; have HO0 := Lib.hid (hO.set1 HA0.out (.int .i64 1)); have hb1 : Below w.heap.size w w1 := (Below.refl _ _).grown hg1 (Nat.le_refl _) (fun j hj => by cases hj); clear hO1 hg1 hO hi hz0 hz1 hz2 HA0))
  have HO : Hid (Own (w1.setCell ⟨w.heap.size, 0, none⟩ (.int .i64 1)) w.heap.size 3 1 (.slice (some ⟨w.heap.size, 0, none⟩) N N) ((nn (tri n 0 n)).map iC)) := by
    have h := HO0.out
    rw [← show iC 1 = [Value.int .i64 1] from rfl, ← List.map_set, nn_zero, show (1 : Int) = ((1 : Nat) : Int) from rfl, nn_set, HN.out, tri_start] at h
    rw [HN.out]
    exact Lib.hid h
  have hb : Below w.heap.size w (w1.setCell ⟨w.heap.size, 0, none⟩ (.int .i64 1)) := hb1.setCell (Nat.le_refl _) _
  clear HO0 hb1 c1 f1
  go_loopg [13] n (fun g i wr => ∃ t : Nat, t + g = n ∧ i = .int .i64 (t : Nat) ∧ Hid (Own wr w.heap.size 3 1 (.slice (some ⟨w.heap.size, 0, none⟩) N N) ((nn (tri n t n)).map iC)) ∧ Below w.heap.size w wr)
  case atStart => exact ⟨0, by omega, rfl, HO, hb⟩
  case round =>
    clear hb HO p1 p2
    obtain ⟨t, ht0, rfl, HO, hb⟩ := hrel
    have HJ := Lib.hid ht0
    have ht : t ≤ n := by omega
    clear ht0
    by_cases hlt : t < n
    · obtain ⟨wo, hwo⟩ : ∃ wo, wo = wr := ⟨_, rfl⟩
      subst hwo
      go_wp2
      go_loopg [6] n (fun g i wr => ∃ s : Nat, Hid (s = g) ∧ s ≤ n ∧ i = .int .i64 (s : Nat) ∧ Hid (Own wr w.heap.size 3 1 (.slice (some ⟨w.heap.size, 0, none⟩) N N) ((nn (tri n t s)).map iC)) ∧ Below w.heap.size w wr)
      case atStart => exact ⟨n, Lib.hid rfl, Nat.le_refl _, rfl, HO, hb⟩
      case round =>
        clear hb HO
        obtain ⟨s, HM, hs, rfl, HO, hb⟩ := hrel
        rcases s with _ | s
        · have HO2 := Lib.hid HO.out
          rw [tri_next] at HO2
          have t0 : decide (0 < ((0 : Nat) : Int)) = false := by simp
          clear HO
          go_wp2
          go_roundg (n - (t + 1))
          case measure => have := HJ.out; omega
          case rel => exact ⟨t + 1, by omega, by go_num, HO2, hb⟩
        · have hx := nn_get (tri_get (n := n) (t := t) (i := s + 1) (j := s + 1) (by omega))
          have hy := nn_get (tri_get (n := n) (t := t) (i := s + 1) (j := s) (by omega))
          rw [if_pos (by omega), if_neg (by omega)] at hx hy
          obtain ⟨c1, f1, p1, p2⟩ := HO.out.at1 (map_get hx)
          obtain ⟨c2, _, _, _⟩ := HO.out.at1 (map_get hy)
          have b1 := le_max (s + 1) (show t ≤ 30 by omega)
          have b2 := le_max s (show t ≤ 30 by omega)
          have HS : Hid (Own (wr.setCell ⟨w.heap.size, s + 1, none⟩ (.int .i64 ((binom t (s + 1) : Nat) + (binom t s : Nat) : Int))) w.heap.size 3 1 (.slice (some ⟨w.heap.size, 0, none⟩) N N) ((nn (tri n t s)).map iC)) := by
            have h := HO.out.set1 (map_get hx) (.int .i64 ((binom t (s + 1) : Nat) + (binom t s : Nat) : Int))
            rw [← show iC ((binom t (s + 1) : Nat) + (binom t s : Nat) : Int) = [Value.int .i64 ((binom t (s + 1) : Nat) + (binom t s : Nat) : Int)] from rfl, ← List.map_set, show ((binom t (s + 1) : Nat) + (binom t s : Nat) : Int) = ((binom t (s + 1) + binom t s : Nat) : Int) from by omega, nn_set, tri_set (by omega)] at h
            rw [show ((binom t (s + 1) : Nat) + (binom t s : Nat) : Int) = ((binom t (s + 1) + binom t s : Nat) : Int) from by omega]
            exact Lib.hid h
          clear hx hy HO
          generalize binom t (s + 1) = X at *
          generalize binom t s = Y at *
          have e1 : (((s + 1 : Nat) : Int) - 1) = (s : Int) := by omega
          have e2 : wrap64 (((s + 1 : Nat) : Int) - 1) = (s : Int) := by unfold wrap64; omega
          generalize hS1 : s + 1 = S1 at *
          have hS2 : S1 < N := by omega
          have hS3 : s < N := by omega
          have hS4 : 0 < S1 := by omega
          have HS1 := Lib.hid hS1
          clear hS1
          go_wp2
          go_region
          go_wp2
          go_roundg s
          case measure => have := HM.out; have := HS1.out; omega
          case rel => exact ⟨s, Lib.hid rfl, by have := HS1.out; omega, by go_num, HS.out.drew, (hb.setCell (Nat.le_refl _) _).drew⟩
    · obtain rfl : t = n := by omega
      by_cases hk : k ≤ t
      · have hx := nn_get (tri_get (n := t) (t := t) (i := t) (j := k) (by omega))
        rw [if_pos hk, if_neg (by omega)] at hx
        obtain ⟨c1, f1, p1, p2⟩ := HO.out.at1 (map_get hx)
        have hkN : k < N := by omega
        clear hx
        generalize hX : binom t k = X at *
        have HX := Lib.hid hX
        clear hX
        go_wp2
        go_ret
        exact ⟨ret_int (by rw [HX.out]), hb⟩
      · have hk' : t < k := by omega
        have HX := Lib.hid (big t k hk')
        clear hk
        go_wp2
        go_ret
        exact ⟨ret_int (by rw [HX.out]; rfl), hb⟩

set_option maxRecDepth 100000 in
set_option maxHeartbeats 1000000 in
theorem refComb_any (a : Option Addr) (len cap : Nat) (l : List Int) (w : World) (h : Tab w a len cap 1 (l.map iC)) :
    Calls Try.prog 29 #[.slice a len cap] w fun e w' => e = .returned (.int .i64 (checkC l)) ∧ w = w' := by
  have hl := h.hlen
  have hm := h.hmax
  have he := h.hle
  rw [List.length_map] at hl
  unfold maxLen at hm
  by_cases h30 : 30 < len
  · have E : Hid (checkC l = 2) := by unfold checkC; rw [if_pos (by omega)]; exact Lib.hid rfl
    clear h hl
    go_enter Try.func29, Try.ntmps29
    go_wp2
    go_ret
    exact ⟨ret_int E.out.symm, rfl⟩
  · have E : Hid (checkC l = checkGo (prevAt l 0) (l.drop 0)) := by unfold checkC; rw [if_neg (by omega)]; exact Lib.hid rfl
    have h30' : len ≤ 30 := by omega
    have HT := Lib.hid h
    have HL := Lib.hid hl
    clear h hl
    go_enter Try.func29, Try.ntmps29
    go_wp2
    go_loopg [3, 11] len (fun g p i wr => wr = w ∧ ∃ (k : Nat) (q : Int), k + g = len ∧ i = .int .i64 (k : Nat) ∧ p = .int .i64 q ∧ Hid (q = prevAt l k ∧ checkC l = checkGo (prevAt l k) (l.drop k)))
    case atStart => exact ⟨rfl, 0, -1, by omega, rfl, rfl, Lib.hid ⟨rfl, E.out⟩⟩
    case round =>
      obtain ⟨rfl, k, q, hk0, rfl, rfl, HE⟩ := hrel
      clear E
      have HJ := Lib.hid hk0
      have hk : k ≤ len := by omega
      clear hk0
      by_cases hlt : k < len
      · obtain ⟨x, hx⟩ : ∃ x, l[k]? = some x := ⟨_, List.getElem?_eq_getElem (by rw [HL.out]; exact hlt)⟩
        obtain ⟨b, off, ha, hbs, h0⟩ := HT.out.one (Below.refl _ _) (map_get hx)
        have HS := Lib.hid (check_step hx)
        have HP : Hid (prevAt l (k + 1) = x) := by unfold prevAt; rw [if_neg (by omega), Nat.add_sub_cancel, hx]; exact Lib.hid rfl
        subst ha
        have W := within_ref x 0 29 wr
        clear hx
        by_cases r1 : x < 0 ∨ 29 < x
        · have HF : Hid (checkC l = 1) := by rw [HE.out.2, HS.out, if_pos r1]; exact Lib.hid rfl
          have r2 : (decide (0 ≤ x) && decide (x ≤ 29)) = false := by
            rcases r1 with h | h
            · rw [show decide (0 ≤ x) = false from decide_eq_false (by omega)]; rfl
            · rw [show decide (x ≤ 29) = false from decide_eq_false (by omega), Bool.and_false]
          rw [r2] at W
          have W := Lib.hid W
          clear r1 r2
          go_wp2_with fail
          refine W.out.mono ?_
          rintro e w1 ⟨rfl, rfl⟩
          go_wp2
          go_ret
          exact ⟨ret_int HF.out.symm, rfl⟩
        · have r2 : (decide (0 ≤ x) && decide (x ≤ 29)) = true := by
            rw [show decide (0 ≤ x) = true from decide_eq_true (by omega), show decide (x ≤ 29) = true from decide_eq_true (by omega)]; rfl
          rw [r2] at W
          have W := Lib.hid W
          by_cases hxy : x ≤ q
          · have HF : Hid (checkC l = 3) := by rw [HE.out.2, HS.out, if_neg r1, if_pos (by rw [← HE.out.1]; exact hxy)]; exact Lib.hid rfl
            clear r1 r2
            go_wp2_with fail
            refine W.out.mono ?_
            rintro e w1 ⟨rfl, rfl⟩
            go_wp2
            go_ret
            exact ⟨ret_int HF.out.symm, rfl⟩
          · have hyx : q < x := by omega
            have HF : Hid (checkC l = checkGo (prevAt l (k + 1)) (l.drop (k + 1))) := by rw [HE.out.2, HS.out, if_neg r1, if_neg (by rw [← HE.out.1]; exact hxy)]; exact Lib.hid rfl
            clear r1 r2 hxy
            go_wp2_with fail
            refine W.out.mono ?_
            rintro e w1 ⟨rfl, rfl⟩
            go_wp2
            go_roundg (len - (k + 1))
            case measure => have := HJ.out; omega
            case rel => exact ⟨rfl, k + 1, x, by omega, by go_num, rfl, Lib.hid ⟨HP.out.symm, HF.out⟩⟩
      · have HF : Hid (checkC l = 0) := by rw [HE.out.2, List.drop_of_length_le (by rw [HL.out]; omega)]; exact Lib.hid rfl
        go_wp2
        go_ret
        exact ⟨ret_int HF.out.symm, rfl⟩

theorem size_int (w : World) : (sizeOf 3).run Try.prog w = .ok 1 w := by kernel_rfl
theorem elem_int : Try.prog.elem 22 = 3 := by kernel_rfl
set_option maxRecDepth 100000 in
set_option maxHeartbeats 2000000 in
theorem refCombRank_any : ∀ (n : Nat) (a : Option Addr) (cap : Nat) (m : List Nat) (w : World), n ≤ 30 → Tab w a n cap 1 ((nn m).map iC) → rising 30 m →
    Calls Try.prog 32 #[.slice a n cap] w fun e w' => e = .returned (.int .i64 (rankFrom 0 m : Nat)) ∧ Below w.heap.size w w'
  | 0, a, cap, m, w, _, h, _ => by
    have hl := h.hlen
    rw [List.length_map, nn_len] at hl
    obtain rfl := List.length_eq_zero_iff.1 hl
    clear h hl
    have t0 : (((0 : Nat) : Int) == 0) = true := by simp
    go_enter Try.func32, Try.ntmps32
    go_wp2
    go_ret
    exact ⟨rfl, Below.refl _ _⟩
  | j + 1, a, cap, m, w, hn, h, hr => by
    have hl := h.hlen
    have hm := h.hmax
    have he := h.hle
    rw [List.length_map, nn_len] at hl
    unfold maxLen at hm
    obtain ⟨y, hy⟩ : ∃ y, m[j]? = some y := ⟨_, List.getElem?_eq_getElem (by omega)⟩
    have hge := rising_ge hr j y hy
    have hy30 : y < 30 := ((rising_iff _ _).1 hr).2 y (List.mem_of_getElem? hy)
    have hup := h.upto_ j (by omega)
    rw [← List.map_take, nn_take] at hup
    have IH := Lib.hid (refCombRank_any j a cap (m.take j) w (by omega) hup (rising_take hr j))
    have hrk := rank_step hy
    rw [List.take_of_length_le (by omega)] at hrk
    have hp := rank_part m (fun x hx => by have := ((rising_iff _ _).1 hr).2 x hx; omega) j (by omega)
    obtain ⟨b, off, ha, hbs, h0⟩ := h.one (Below.refl _ _) (map_get (nn_get hy))
    have hcell : ∀ W, Below w.heap.size w W → W.cell? ⟨b, off + j, none⟩ = some (.int .i64 (y : Nat)) := fun W hW => (hW.cell (p := ⟨b, off + j, none⟩) hbs).trans h0
    have HC := Lib.hid hcell
    have rU := run_upto 22 3 1 Try.underlying22 elem_int size_int a (j + 1) cap j (by omega)
    have HW := Lib.hid (fun x (hx : x ≤ 30) => refWays_any x j hx)
    have HR := Lib.hid hrk
    have HH := Lib.hid (hockey j)
    have e1 : (((j + 1 : Nat) : Int) - 1) = (j : Int) := by omega
    have t0 : (((j + 1 : Nat) : Int) == 0) = false := by rw [beq_eq_false_iff_ne]; omega
    subst ha
    generalize rankFrom 0 (m.take j) = p at *
    clear hup hrk h hr hy hcell h0 hl
    generalize hJ1 : j + 1 = J1 at *
    have hJ2 : j < J1 := by omega
    have HJ1 := Lib.hid hJ1
    clear hJ1
    go_enter Try.func32, Try.ntmps32
    go_wp2_with fail
    refine IH.out.mono ?_
    rintro e w1 ⟨rfl, hb1⟩
    clear IH
    go_wp2
    go_loopg [4, 5] (y - j) (fun g z i wr => ∃ d : Nat, d + g = y - j ∧ i = .int .i64 ((j : Int) + d) ∧ z = .int .i64 ((p : Int) + (binom (j + d) (j + 1) : Nat)) ∧ Below w.heap.size w wr)
    case atStart => exact ⟨0, by omega, by go_num, by rw [Nat.add_zero, big j (j + 1) (by omega)]; go_num, hb1⟩
    case round =>
      clear hb1
      obtain ⟨d, hd0, rfl, rfl, hb⟩ := hrel
      have HJ := Lib.hid hd0
      have hd : d ≤ y - j := by omega
      clear hd0
      have c0 := HC.out wr hb
      have hq := le_max (j + 1) (show j + d ≤ 30 by omega)
      by_cases hlt : d < y - j
      · have D := HW.out (j + d) (by omega) wr
        rw [show ((j + d : Nat) : Int) = (j : Int) + d from by omega] at D
        have D := Lib.hid D
        have hq2 := le_max j (show j + d ≤ 30 by omega)
        have E1 := Lib.hid (succ_succ (j + d) j)
        generalize binom (j + d) (j + 1) = q at *
        generalize binom (j + d) j = u at *
        have t1 : (j : Int) + d < (y : Int) := by omega
        go_wp2_with fail
        refine D.out.mono ?_
        rintro e w2 ⟨rfl, hb2⟩
        go_wp2
        go_roundg (y - j - (d + 1))
        case measure => have := HJ.out; omega
        case rel => exact ⟨d + 1, by omega, by go_num, by rw [show j + (d + 1) = j + d + 1 from rfl, E1.out]; go_num, below_on hb hb2⟩
      · have ej : j + d = y := by omega
        have t1 : (y : Int) ≤ (j : Int) + d := by omega
        rw [ej] at hq ⊢
        clear ej
        have HJ2 := HJ1.out
        rw [HJ2] at hq ⊢
        clear HJ2
        generalize hB : binom y J1 = B at *
        have HB := Lib.hid hB
        clear hB
        go_wp2
        go_ret
        exact ⟨ret_int (by rw [HR.out]; omega), hb⟩

set_option maxRecDepth 100000 in
set_option maxHeartbeats 2000000 in
theorem refSome_any : ∀ (k r : Nat) (w : World), k ≤ 30 → r < binom 30 k →
    Calls Try.prog 33 #[.int .i64 k, .int .i64 r] w (RetRows w 3 1 ((nn (someOf k 30 r)).map iC))
  | 0, r, w, _, _ => by
    have t0 : (((0 : Nat) : Int) == 0) = true := by simp
    go_enter Try.func33, Try.ntmps33
    go_wp2
    go_ret
    exact ⟨_, rfl, Own.nil _ _ _ _, Below.refl _ _⟩
  | j + 1, r, w, hk, hr => by
    have IH := Lib.hid (fun q W (hq : q < binom 30 j) => refSome_any j q W (by omega) hq)
    have HW := Lib.hid (fun x (hx : x ≤ 30) => refWays_any x j hx)
    have hr2 := le_max (j + 1) (Nat.le_refl 30)
    have hr3 : r ≤ 1073741824 := by omega
    have HR := Lib.hid hr
    have HS := Lib.hid (fun x (h1 : binom x (j + 1) ≤ r) (h2 : r - binom x (j + 1) < binom x j) => some_step hr h1 h2)
    have e1 : (((j + 1 : Nat) : Int) - 1) = (j : Int) := by omega
    have t0 : (((j + 1 : Nat) : Int) == 0) = false := by rw [beq_eq_false_iff_ne]; omega
    have HP := Lib.hid (fun x => succ_succ x j)
    have HZ := Lib.hid (big j (j + 1) (by omega))
    clear hr hr2
    generalize hJ1 : j + 1 = J1 at *
    have hJ2 : j < J1 := by omega
    have HJ1 := Lib.hid hJ1
    clear hJ1
    go_enter Try.func33, Try.ntmps33
    go_wp2
    go_loopg [1, 5] (30 - j) (fun g rr xx wr => ∃ x q : Nat, Hid (x + g = 30) ∧ x < 30 ∧ q ≤ 1073741824 ∧ rr = .int .i64 (q : Nat) ∧ xx = .int .i64 (x : Nat) ∧ Hid (binom x J1 + q = r) ∧ Below w.heap.size w wr)
    case atStart => exact ⟨j, r, Lib.hid (by omega), by omega, hr3, by go_num, by go_num, Lib.hid (by rw [HZ.out]; omega), Below.refl _ _⟩
    case round =>
      obtain ⟨x, q, HM, hx, hq, rfl, rfl, HE, hb⟩ := hrel
      have D := Lib.hid (HW.out x (by omega))
      have hu := le_max j (show x ≤ 30 by omega)
      by_cases hc : binom x j ≤ q
      · have HP2 := HP.out x
        have HE2 : Hid (binom (x + 1) J1 + (q - binom x j) = r) := by
          have h1 := HE.out
          exact Lib.hid (by omega)
        have hx2 : x + 1 < 30 := by
          rcases Nat.lt_or_ge (x + 1) 30 with h | h
          · exact h
          · have h1 := mono J1 h
            have h2 := HE2.out
            have h3 := HR.out
            omega
        clear HP2
        generalize binom x j = u at *
        go_wp2_with fail
        refine (D.out _).mono ?_
        rintro e w2 ⟨rfl, hb2⟩
        go_wp2_with fail
        refine (D.out _).mono ?_
        rintro e w3 ⟨rfl, hb3⟩
        go_wp2
        go_roundg (30 - (x + 1))
        case measure => have := HM.out; omega
        case rel => exact ⟨x + 1, q - u, Lib.hid (by omega), hx2, by omega, by go_num, by go_num, HE2, below_on (below_on hb hb2) hb3⟩
      · have hqe : q = r - binom x J1 := by have := HE.out; omega
        obtain ⟨_, hso⟩ := HS.out x (by have := HE.out; omega) (by omega)
        rw [← hqe] at hso
        have hq30 : q < binom 30 j := Nat.lt_of_lt_of_le (by omega) (mono j (show x ≤ 30 by omega))
        have I := Lib.hid (fun W => IH.out q W hq30)
        have HSO : Hid ((nn (someOf J1 30 r)).map iC = (nn (someOf j 30 q)).map iC ++ [[.int .i64 (x : Nat)]]) := by
          rw [hso, nn_app, List.map_append]; exact Lib.hid rfl
        have hlen : ((nn (someOf j 30 q)).map iC).length ≤ 30 := by rw [List.length_map, nn_len, someOf_len]; omega
        have hc' : q < binom x j := by omega
        clear hqe hso hq30 hc HE HS IH
        generalize binom x j = u at *
        generalize (nn (someOf j 30 q)).map iC = R at *
        go_wp2_with fail
        refine (D.out _).mono ?_
        rintro e w2 ⟨rfl, hb2⟩
        go_wp2_with fail
        refine (I.out _).mono ?_
        rintro e w3 ⟨v, rfl, hO, hb3⟩
        have hbw := below_on (below_on hb hb2) hb3
        have hs3 := hbw.size
        have hOb := hO.base_le (below_on hb hb2).size
        go_wp2_with (first | (at_builtin; refine wpList_append_rows _ rfl _ _ 22 rfl w.heap.size 3 _ 1 8 Try.underlying22 info_int rfl (by decide) _ R rfl (hOb.alloc _) ⟨w3.heap.size, 0, none⟩ 1 1 [[.int .i64 (x : Nat)]] rfl rfl (by simp) (one_row _ _ _ _ (by simp)) (by simp [Value.oneCell']) (by omega) (by decide) (by simp; omega) ?_; intro v' w8 hO8 hg8))
        go_ret
        exact ⟨_, rfl, by rw [HSO.out]; exact hO8, (hOb.alloc _).under (hbw.alloc hs3 _) (Nat.le_refl _) (by simp; omega) hg8⟩

end Go.Proofs.Ytanfkolcoaofdaa
