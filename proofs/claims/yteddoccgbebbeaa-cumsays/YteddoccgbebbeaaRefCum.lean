/- The contracts of the document's own picks (culref.Pick, culref.Even with its closure). -/
import Derived.Test.YteddoccgbebbeaaRefWeight
import Derived.Test.YteddoccgbebbeaaCumLaws
import Derived.Test.YteddoccgbebbeaaEvenMath
import Derived.Test.YteddoccgbebbeaaInfoInts
import Derived.Test.YteddoccgbebbeaaOwnMore
namespace Go.Proofs.Yteddoccgbebbeaa
open Go.ChangeShapes Go.WideShapes Go.ChangeAt Go.RowKit
open Cum

theorem heap_two' (w : World) (o o' : Obj) : ((w.alloc o).alloc o').heap[w.heap.size]? = some o := by
  rw [Below.heap_alloc _ _ _ (by simp)]
  exact (MapKept.heap_alloc w o).1

set_option maxRecDepth 100000 in
set_option maxHeartbeats 1000000 in
theorem refPick_any (a : Option Addr) (len cap : Nat) (l : List Int) (part : Int) (w : World) (h : Tab w a len cap 1 (l.map iC)) (h40 : len ≤ 40) (hz : ∀ x ∈ l, 0 ≤ x ∧ x ≤ 1000000000000) (p0 : 0 ≤ part) (p1 : part < l.sum) :
    Calls Try.prog 18 #[.slice a len cap, .int .i64 part] w fun e w' => e = .returned (.int .i64 (place l 1 part : Nat)) ∧ w = w' := by
  have hl := h.hlen
  rw [List.length_map] at hl
  have hz0 : ∀ x ∈ l, 0 ≤ x := fun x hx => (hz x hx).1
  have bA := (sum_bd hz).2
  have p2 : part ≤ 40000000000000 := by omega
  have HT := Lib.hid h
  have HL := Lib.hid hl
  have HZ := Lib.hid hz
  have HZ0 := Lib.hid hz0
  have HP1 := Lib.hid p1
  obtain ⟨I, hI⟩ : ∃ I, place l 1 part = I := ⟨_, rfl⟩
  rw [hI]
  have HI := Lib.hid hI
  clear h hl hz hz0 bA p1 hI
  go_enter Try.func18, Try.ntmps18
  go_wp2_with fail
  go_loopg [1, 5] len (fun g p i wr => ∃ (k : Nat) (P : Int), k + g = len ∧ i = .int .i64 k ∧ p = .int .i64 P ∧ 0 ≤ P ∧ P ≤ part ∧ Hid (P = part - pre l k) ∧ wr = w)
  case atStart => exact ⟨0, part, by omega, rfl, rfl, p0, Int.le_refl _, Lib.hid (by rw [pre_zero]; omega), rfl⟩
  case round =>
    obtain ⟨k, P, hk0, rfl, rfl, hP0, hP1, HP, rfl⟩ := hrel
    have HJ := Lib.hid hk0
    have hk : k < len := by
      by_cases c : k < len
      · exact c
      · have e := HP.out
        rw [pre_all (by rw [HL.out]; omega)] at e
        have := HP1.out
        omega
    clear hk0
    obtain ⟨x, hx⟩ : ∃ x, l[k]? = some x := ⟨_, List.getElem?_eq_getElem (by rw [HL.out]; exact hk)⟩
    obtain ⟨b1, o1, ha, hbs, c0⟩ := HT.out.one (Below.refl _ _) (map_get hx)
    have bx := HZ.out x (List.mem_of_getElem? hx)
    have bx1 := bx.1
    have bx2 := bx.2
    have HN := Lib.hid (pre_succ hx)
    subst ha
    clear hx bx
    by_cases hlt : x ≤ P
    · go_wp2_with fail
      go_roundg (len - (k + 1))
      case measure => have := HJ.out; omega
      case rel => exact ⟨k + 1, P - x, by omega, by go_num, by go_num, by omega, by omega, Lib.hid (by rw [HN.out, HP.out]; omega), rfl⟩
    · have hlt' : P < x := by omega
      clear hlt
      obtain rfl : I = k := by
        rw [← HI.out, place_iff HZ0.out (by decide) p0 (by rw [HL.out]; exact hk), HN.out]
        have := HP.out
        omega
      go_wp2
      go_ret
      exact ⟨rfl, rfl⟩

set_option maxRecDepth 100000 in
set_option maxHeartbeats 1000000 in
theorem refBelow_any (x s A : Int) (n : Nat) (B C D : Nat) (w : World) (hB : w.cell? ⟨B, 0, none⟩ = some (.int .i64 (n : Int))) (hC : w.cell? ⟨C, 0, none⟩ = some (.int .i64 s)) (hD : w.cell? ⟨D, 0, none⟩ = some (.int .i64 A))
    (n1 : n ≤ 1000) (s0 : 0 ≤ s) (s1 : s < A) (A1 : A ≤ 40000000000000) (x0 : 0 ≤ x) (x1 : x ≤ A) :
    Calls Try.prog 45 #[.int .i64 x, .pointer (some ⟨B, 0, none⟩), .pointer (some ⟨C, 0, none⟩), .pointer (some ⟨D, 0, none⟩)] w fun e w' => e = .returned (.int .i64 (cutI A s (x * (n : Int)))) ∧ w = w' := by
  have m0 : 0 ≤ x * (n : Int) := Int.mul_nonneg x0 (by omega)
  have m1 : x * (n : Int) ≤ A * (n : Int) := Int.mul_le_mul_of_nonneg_right x1 (by omega)
  have m2 : A * (n : Int) ≤ A * 1000 := Int.mul_le_mul_of_nonneg_left (by omega) (by omega)
  have m3 : x * (n : Int) ≤ 40000000000000000 := by omega
  have HI := Lib.hid (fun j : Int => cut_iff (A := A) (s := s) (y := x * (n : Int)) (by omega) j)
  have c0 := cut_nonneg (A := A) (s := s) (y := x * (n : Int)) (by omega) s1 m0
  have c1 := cut_le (A := A) (s := s) (k := n) (by omega) s0 m1
  generalize cutI A s (x * (n : Int)) = C0 at *
  clear m1 m2
  go_enter Try.func45, Try.ntmps45
  go_wp2_with fail
  go_loopg [6] n (fun g i wr => ∃ j : Nat, j + g = n ∧ i = .int .i64 j ∧ (j : Int) ≤ C0 ∧ wr = w)
  case atStart => exact ⟨0, by omega, rfl, by omega, rfl⟩
  case round =>
    obtain ⟨j, hj0, rfl, hjc, rfl⟩ := hrel
    have HJ := Lib.hid hj0
    have hj : j ≤ n := by omega
    clear hj0
    by_cases hlt : j < n
    · have q0 : 0 ≤ (j : Int) * A := Int.mul_nonneg (by omega) (by omega)
      have q1 : (j : Int) * A ≤ 1000 * A := Int.mul_le_mul_of_nonneg_right (by omega) (by omega)
      have q2 : (j : Int) * A ≤ 40000000000000000 := by omega
      have hi := HI.out (j : Int)
      clear q1
      by_cases hc : (j : Int) < C0
      · have q3 := hi.1 hc
        clear hi
        go_wp2_with fail
        go_roundg (n - (j + 1))
        case measure => have := HJ.out; omega
        case rel => exact ⟨j + 1, by omega, by go_num, by omega, rfl⟩
      · obtain rfl : C0 = (j : Int) := by omega
        have q3 : x * (n : Int) ≤ s + (j : Int) * A := by
          by_cases e : s + (j : Int) * A < x * (n : Int)
          · exact absurd (hi.2 e) hc
          · omega
        clear hi hc
        go_wp2
        go_ret
        exact ⟨rfl, rfl⟩
    · obtain rfl : j = n := by omega
      obtain rfl : C0 = (j : Int) := by omega
      clear hlt
      go_wp2
      go_ret
      exact ⟨rfl, rfl⟩

/-- what each of the first k places gets -/
def cutsTo (l : List Int) (n : Nat) (s : Int) (k : Nat) : List Int := (List.range k).map (fun i => cutI l.sum s (pre l (i + 1) * (n : Int)) - cutI l.sum s (pre l i * (n : Int)))
theorem cutsTo_succ (l : List Int) (n : Nat) (s : Int) (k : Nat) : cutsTo l n s (k + 1) = cutsTo l n s k ++ [cutI l.sum s (pre l (k + 1) * (n : Int)) - cutI l.sum s (pre l k * (n : Int))] := by
  unfold cutsTo
  rw [List.range_succ, List.map_append]; rfl
theorem cutsTo_len (l : List Int) (n : Nat) (s : Int) (k : Nat) : (cutsTo l n s k).length = k := by simp [cutsTo]
theorem cutsTo_all {l : List Int} {n : Nat} {s : Int} (hz : ∀ x ∈ l, 0 ≤ x) (s0 : 0 ≤ s) (s1 : s < l.sum) : cutsTo l n s l.length = evenL l n s := by
  apply List.ext_getElem?
  intro i
  by_cases h : i < l.length
  · rw [evenL_get hz s0 s1 h]
    simp [cutsTo, h]
  · rw [List.getElem?_eq_none (by rw [cutsTo_len]; omega), List.getElem?_eq_none (by rw [evenL_len]; omega)]

set_option maxRecDepth 100000 in
set_option maxHeartbeats 2000000 in
theorem refEven_any (a : Option Addr) (len cap : Nat) (l : List Int) (n : Nat) (s : Int) (w : World) (h : Tab w a len cap 1 (l.map iC)) (hE : weightsE l = 0) (n1 : n ≤ 1000) (s0 : 0 ≤ s) (s1 : s < l.sum) :
    Calls Try.prog 20 #[.slice a len cap, .int .i64 n, .int .i64 s] w (RetRows w 3 1 ((evenL l n s).map iC)) := by
  have hl := h.hlen
  rw [List.length_map] at hl
  obtain ⟨z1, z2, z3⟩ := weightsE_zero hE
  have h40 : len ≤ 40 := by omega
  have hz0 : ∀ x ∈ l, 0 ≤ x := fun x hx => (z2 x hx).1
  have bA := (sum_bd z2).2
  have A1 : l.sum ≤ 40000000000000 := by omega
  obtain ⟨W2, hW2⟩ : ∃ W2, (w.alloc (.cells #[.int .i64 (n : Int)] 3)).alloc (.cells #[.int .i64 s] 3) = W2 := ⟨_, rfl⟩
  have hb2 : Below w.heap.size w W2 := by rw [← hW2]; exact ((Below.refl _ _).alloc (Nat.le_refl _) _).alloc (by simp) _
  have hsz2 : W2.heap.size = w.heap.size + 2 := by rw [← hW2]; simp
  have hk2 : W2.heap[w.heap.size]? = some (.cells #[.int .i64 (n : Int)] 3 (0, 0)) := by
    rw [← hW2]; exact heap_two' _ _ _
  have hs2 : W2.heap[w.heap.size + 1]? = some (.cells #[.int .i64 s] 3 (0, 0)) := by
    have := (MapKept.heap_alloc (w.alloc (.cells #[.int .i64 (n : Int)] 3)) (.cells #[.int .i64 s] 3)).1
    rw [← hW2]; simpa using this
  have CW := refWeights_any a len cap l W2 (h.below hb2)
  rw [hE, if_pos rfl] at CW
  obtain ⟨W3, hW3⟩ : ∃ W3, W2.alloc (.cells #[.int .i64 l.sum] 3) = W3 := ⟨_, rfl⟩
  have hb3 : Below W2.heap.size W2 W3 := by rw [← hW3]; exact (Below.refl _ _).alloc (Nat.le_refl _) _
  have ha3 : W3.heap[w.heap.size + 2]? = some (.cells #[.int .i64 l.sum] 3 (0, 0)) := by
    have := (MapKept.heap_alloc W2 (.cells #[.int .i64 l.sum] 3)).1
    rw [hsz2] at this
    rw [← hW3]; exact this
  have hk3 := (hb3.block w.heap.size (by omega)).trans hk2
  have hs3 := (hb3.block (w.heap.size + 1) (by omega)).trans hs2
  have hsz3 : W3.heap.size = w.heap.size + 3 := by rw [← hW3]; simp [hsz2]
  have HBL : Hid (∀ (x : Int) (W : World), Below W3.heap.size W3 W → 0 ≤ x → x ≤ l.sum → Calls Try.prog 45 #[.int .i64 x, .pointer (some ⟨w.heap.size, 0, none⟩), .pointer (some ⟨w.heap.size + 1, 0, none⟩), .pointer (some ⟨w.heap.size + 2, 0, none⟩)] W fun e w' => e = .returned (.int .i64 (cutI l.sum s (x * (n : Int)))) ∧ W = w') :=
    Lib.hid (fun x W hW x0 x1 => refBelow_any x s l.sum n w.heap.size (w.heap.size + 1) (w.heap.size + 2) W
      (cell_blk ((hW.block w.heap.size (by omega)).trans hk3) rfl) (cell_blk ((hW.block (w.heap.size + 1) (by omega)).trans hs3) rfl) (cell_blk ((hW.block (w.heap.size + 2) (by omega)).trans ha3) rfl) n1 s0 s1 A1 x0 x1)
  have HCB := Lib.hid (fun (x : Int) (x0 : 0 ≤ x) (x1 : x ≤ l.sum) => And.intro (cut_nonneg (A := l.sum) (s := s) (y := x * (n : Int)) (by omega) s1 (Int.mul_nonneg x0 (by omega))) (cut_le (A := l.sum) (s := s) (k := n) (y := x * (n : Int)) (by omega) s0 (Int.mul_le_mul_of_nonneg_right x1 (by omega))))
  have HPB := Lib.hid (fun i => And.intro (pre_nonneg hz0 i) (pre_le hz0 i))
  have HALL := cutsTo_all (n := n) hz0 s0 s1
  rw [hl] at HALL
  rw [← HALL]
  have HB3 := Lib.hid (below_on hb2 hb3)
  have HT := Lib.hid h
  have HL := Lib.hid hl
  have HS := Lib.hid (fun k => cutsTo_succ l n s k)
  have HZ := Lib.hid z2
  obtain ⟨A, hA⟩ : ∃ A, l.sum = A := ⟨_, rfl⟩
  rw [hA] at CW hW3 HBL HCB HPB HS A1 s1
  have A0 : 0 ≤ A := by omega
  have CW := Lib.hid CW
  have HW2 := Lib.hid hW2
  have HW3 := Lib.hid hW3
  have HSZ := Lib.hid hsz2
  clear h hE hl z1 z2 z3 hz0 bA s1 hA hb2 hb3 hk2 hs2 hk3 hs3 ha3 hsz3 HALL hW2 hW3 hsz2
  go_enter Try.func20, Try.ntmps20
  go_wp2_with fail
  rw [HW2.out]
  refine CW.out.mono ?_
  rintro e W2' ⟨rfl, rfl⟩
  have hsz := HSZ.out
  have hw3 := HW3.out
  go_wp2_with fail
  clear hsz hw3 CW
  go_loopg [10, 11, 22] len (fun g v at_ i wr => ∃ (k : Nat) (P : Int), k + g = len ∧ i = .int .i64 k ∧ at_ = .int .i64 P ∧ 0 ≤ P ∧ P ≤ A ∧ Hid (P = pre l k) ∧ Hid (Own wr W3.heap.size 3 1 v ((cutsTo l n s k).map iC)) ∧ Hid (Below W3.heap.size W3 wr))
  case atStart => exact ⟨0, 0, by omega, rfl, rfl, by omega, by omega, Lib.hid (pre_zero l).symm, Lib.hid (Own.nil _ _ _ _), Lib.hid (Below.refl _ _)⟩
  case round =>
    obtain ⟨k, P, hk0, rfl, rfl, hP0, hP1, HP, HV, HB⟩ := hrel
    have HJ := Lib.hid hk0
    have hk : k ≤ len := by omega
    clear hk0
    by_cases hlt : k < len
    · obtain ⟨x, hx⟩ : ∃ x, l[k]? = some x := ⟨_, List.getElem?_eq_getElem (by rw [HL.out]; exact hlt)⟩
      obtain ⟨b1, o1, ha, hbs, c0⟩ := HT.out.one (below_on HB3.out HB.out) (map_get hx)
      have bx := HZ.out x (List.mem_of_getElem? hx)
      have hp2 := (HPB.out (k + 1)).2
      have HPN : Hid (P + x = pre l (k + 1)) := Lib.hid (by rw [pre_succ hx, HP.out])
      rw [← HPN.out] at hp2
      have bx1 := bx.1
      have bx2 := bx.2
      have c1 := HCB.out (P + x) (by omega) hp2
      have c2 := HCB.out P hP0 hP1
      have HC1 := Lib.hid (fun W hW => HBL.out (P + x) W hW (by omega) hp2)
      have HC2 := Lib.hid (fun W hW => HBL.out P W hW hP0 hP1)
      have HN := HS.out k
      rw [← HPN.out, ← HP.out] at HN
      have HN := Lib.hid HN
      have HVL : Hid (((cutsTo l n s k).map iC).length ≤ 40) := Lib.hid (by rw [List.length_map, cutsTo_len]; omega)
      generalize cutI A s ((P + x) * (n : Int)) = Y1 at *
      generalize cutI A s (P * (n : Int)) = Y2 at *
      obtain ⟨y1, y2⟩ := c1
      obtain ⟨y3, y4⟩ := c2
      have y5 : Y1 ≤ 1000 := by omega
      have y6 : Y2 ≤ 1000 := by omega
      subst ha
      clear hx bx
      go_wp2_with fail
      refine (HC1.out _ HB.out).mono ?_
      rintro e w5 ⟨rfl, rfl⟩
      go_wp2_with fail
      refine (HC2.out _ HB.out).mono ?_
      rintro e w5 ⟨rfl, rfl⟩
      go_wp2_with (at_builtin; refine wpList_append_rows _ rfl _ _ 22 rfl W3.heap.size 3 _ 1 8 Try.underlying22 info_int rfl (by decide) _ ((cutsTo l n s k).map iC) rfl (HV.out.alloc _) ⟨wr.heap.size, 0, none⟩ 1 1 [iC (Y1 - Y2)] rfl rfl (by simp [iC]) (one_row wr (iC (Y1 - Y2)) 3 _ rfl) (by simp [iC, Value.oneCell']) (by have := HVL.out; omega) (by decide) (Nat.le_trans HB.out.size (by simp)) ?_; intro v6 w6 hO6 hg6)
      go_roundg (len - (k + 1))
      case measure => have := HJ.out; omega
      case rel =>
        refine ⟨k + 1, P + x, by omega, by go_num, by go_num, by omega, hp2, HPN, ?_, ?_⟩
        · rw [HN.out, List.map_append]; exact Lib.hid hO6
        · exact Lib.hid ((HV.out.alloc _).under (HB.out.alloc HB.out.size _) (Nat.le_refl _) (Nat.le_trans HB.out.size (by simp)) hg6)
    · obtain rfl : k = len := by omega
      go_wp2
      go_ret
      exact ⟨_, rfl, HV.out.base_le HB3.out.size, below_on HB3.out HB.out⟩
end Go.Proofs.Yteddoccgbebbeaa
