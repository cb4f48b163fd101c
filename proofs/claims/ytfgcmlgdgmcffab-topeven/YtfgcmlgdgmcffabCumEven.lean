/- The contract of the program's cum.Even. -/
import Derived.Test.YtfgcmlgdgmcffabCumSums
import Derived.Test.YtfgcmlgdgmcffabCumCloEven
import Derived.Test.YtfgcmlgdgmcffabEvenMath
namespace Go.Proofs.Ytfgcmlgdgmcffab
open Go.ChangeShapes Go.WideShapes Go.ChangeAt Go.RowKit
open Cum

set_option maxRecDepth 100000 in
set_option maxHeartbeats 1000000 in
theorem even_bad (a : Option Addr) (len cap : Nat) (l : List Int) (k start : Int) (w : World) (h : Tab w a len cap 1 (l.map iC)) (hE : weightsE l ≠ 0) :
    Calls Try.prog 16 #[.slice a len cap, .int .i64 k, .int .i64 start] w fun e w' => e = .returned (.tuple #[.slice none 0 0, .int .i64 (weightsE l)]) ∧ Below w.heap.size w w' := by
  have hb0 : Below w.heap.size w (w.alloc (.cells #[.int .i64 k] 3)) := (Below.refl _ _).alloc (Nat.le_refl _) _
  have HC := Lib.hid (sums_bad a len cap l _ (h.below hb0) hE)
  have t : (weightsE l != 0) = true := by simpa using hE
  clear h hE
  generalize weightsE l = E at *
  go_enter Try.func16, Try.ntmps16
  go_wp2_with fail
  refine HC.out.mono ?_
  rintro e w1 ⟨rfl, hb⟩
  go_wp2
  go_ret2
  exact ⟨rfl, below_on hb0 hb⟩

set_option maxRecDepth 100000 in
set_option maxHeartbeats 1000000 in
theorem even_arg (a : Option Addr) (len cap : Nat) (l : List Int) (k start : Int) (w : World) (h : Tab w a len cap 1 (l.map iC)) (hE : weightsE l = 0) (hp : k < 1 ∨ 1000 < k ∨ start < 0 ∨ l.sum ≤ start) :
    Calls Try.prog 16 #[.slice a len cap, .int .i64 k, .int .i64 start] w fun e w' => e = .returned (.tuple #[.slice none 0 0, .int .i64 1]) ∧ Below w.heap.size w w' := by
  have hb0 : Below w.heap.size w (w.alloc (.cells #[.int .i64 k] 3)) := (Below.refl _ _).alloc (Nat.le_refl _) _
  have HC := Lib.hid (sums_ok a len cap l _ (h.below hb0) hE)
  have hk : (w.alloc (.cells #[.int .i64 k] 3)).heap[w.heap.size]? = some (.cells #[.int .i64 k] 3 (0, 0)) := (MapKept.heap_alloc w _).1
  have HK := Lib.hid hk
  clear h hE hk
  generalize l.sum = A at *
  by_cases h1 : k < 1
  · clear hp
    go_enter Try.func16, Try.ntmps16
    go_wp2_with fail
    refine HC.out.mono ?_
    rintro e w1 ⟨G, rfl, hO, hb⟩
    have c0 := cell_blk ((hb.block w.heap.size (by simp)).trans HK.out) (i := 0) rfl
    clear hO HC
    go_wp2
    go_ret2
    exact ⟨rfl, below_on hb0 hb⟩
  have h1' : 1 ≤ k := by omega
  by_cases h2 : 1000 < k
  · clear hp h1
    go_enter Try.func16, Try.ntmps16
    go_wp2_with fail
    refine HC.out.mono ?_
    rintro e w1 ⟨G, rfl, hO, hb⟩
    have c0 := cell_blk ((hb.block w.heap.size (by simp)).trans HK.out) (i := 0) rfl
    clear hO HC
    go_wp2
    go_ret2
    exact ⟨rfl, below_on hb0 hb⟩
  have h2' : k ≤ 1000 := by omega
  by_cases h3 : start < 0
  · clear hp h1 h2
    go_enter Try.func16, Try.ntmps16
    go_wp2_with fail
    refine HC.out.mono ?_
    rintro e w1 ⟨G, rfl, hO, hb⟩
    have c0 := cell_blk ((hb.block w.heap.size (by simp)).trans HK.out) (i := 0) rfl
    clear hO HC
    go_wp2
    go_ret2
    exact ⟨rfl, below_on hb0 hb⟩
  have h3' : 0 ≤ start := by omega
  have h4 : A ≤ start := by omega
  clear hp h1 h2 h3
  go_enter Try.func16, Try.ntmps16
  go_wp2_with fail
  refine HC.out.mono ?_
  rintro e w1 ⟨G, rfl, hO, hb⟩
  have c0 := cell_blk ((hb.block w.heap.size (by simp)).trans HK.out) (i := 0) rfl
  clear hO HC
  go_wp2
  go_ret2
  exact ⟨rfl, below_on hb0 hb⟩

set_option maxRecDepth 100000 in
set_option maxHeartbeats 2000000 in
theorem even_ok (a : Option Addr) (len cap : Nat) (l : List Int) (k : Nat) (start : Int) (w : World) (h : Tab w a len cap 1 (l.map iC)) (hE : weightsE l = 0) (k1 : 1 ≤ k) (k2 : k ≤ 1000) (s0 : 0 ≤ start) (s1 : start < l.sum) :
    Calls Try.prog 16 #[.slice a len cap, .int .i64 k, .int .i64 start] w fun e w' => ∃ v, e = .returned (.tuple #[v, .int .i64 0]) ∧ Own w' w.heap.size 3 1 v ((evenL l k start).map iC) ∧ Below w.heap.size w w' := by
  obtain ⟨z1, z2, z3⟩ := weightsE_zero hE
  have hl := h.hlen
  rw [List.length_map] at hl
  have hn40 : len ≤ 40 := by omega
  have bA := (sum_bd z2).2
  have bA2 : l.sum ≤ 40000000000000 := by omega
  have hz : ∀ x ∈ l, 0 ≤ x := fun x hx => (z2 x hx).1
  have hb0 : Below w.heap.size w (w.alloc (.cells #[.int .i64 k] 3)) := (Below.refl _ _).alloc (Nat.le_refl _) _
  have HC := Lib.hid (sums_ok a len cap l _ (h.below hb0) hE)
  have hk : (w.alloc (.cells #[.int .i64 k] 3)).heap[w.heap.size]? = some (.cells #[.int .i64 k] 3 (0, 0)) := (MapKept.heap_alloc w _).1
  have HK := Lib.hid hk
  have HIX := Lib.hid (fun (G B C : Nat) (x : Int) (W : World) (hT : Tab W (some ⟨G, 0, none⟩) len len 1 ((sumsOf l).map iC)) (hc : W.cell? ⟨B, 0, none⟩ = some (.int .i64 (k : Int))) (hx : W.cell? ⟨C, 0, none⟩ = some (.int .i64 x)) (x0 : 0 ≤ x) (x1 : x < l.sum * (k : Int)) =>
    evenIndex_any (some ⟨G, 0, none⟩) len len (sumsOf l) k x B C W hT hc hx (fun s hs => by
      have b := sumsOf_mem hz hs
      have m0 : 0 ≤ s * (k : Int) := Int.mul_nonneg b.1 (by omega)
      have m1 : s * (k : Int) ≤ 40000000000000 * (k : Int) := Int.mul_le_mul_of_nonneg_right (by omega) (by omega)
      omega) (by have := place_lt (l := l) (k := (k : Int)) x0 x1; rw [sumsOf_len]; exact this))
  have HIX : Hid (∀ (G B C : Nat) (x : Int) (W : World), Tab W (some ⟨G, 0, none⟩) len len 1 ((sumsOf l).map iC) → W.cell? ⟨B, 0, none⟩ = some (.int .i64 (k : Int)) → W.cell? ⟨C, 0, none⟩ = some (.int .i64 x) → 0 ≤ x → x < l.sum * (k : Int) → Calls Try.prog 29 #[.slice (some ⟨G, 0, none⟩) len len, .func (.func 30) #[] #[.pointer (some ⟨B, 0, none⟩), .pointer (some ⟨C, 0, none⟩)]] W fun e w' => e = .returned (.int .i64 (place l k x : Nat)) ∧ W = w') := HIX
  have HPT := Lib.hid (fun (j : Nat) (hj : j < k) => point_bd (A := l.sum) (s := start) (k := k) s0 s1 hj)
  have HPL := Lib.hid (fun (x : Int) (h0 : 0 ≤ x) (h1 : x < l.sum * (k : Int)) => place_lt (l := l) (k := (k : Int)) h0 h1)
  have HEV : Hid (evenL l k start = tally (fun j => place l k (start + (j : Int) * l.sum)) len k) := Lib.hid (by unfold evenL; rw [hl])
  rw [hl] at HPL
  rw [HEV.out]
  obtain ⟨A, hA⟩ : ∃ A, l.sum = A := ⟨_, rfl⟩
  rw [hA] at HC HIX HPT HPL s1 bA2 ⊢
  obtain ⟨i0, hi, hz0, hz1, hz2⟩ := info_parts info_int
  have HI := Lib.hid (And.intro hi (And.intro hz0 (And.intro hz1 hz2)))
  have HB0 := Lib.hid hb0
  have hsz : (w.alloc (.cells #[.int .i64 k] 3)).heap.size = w.heap.size + 1 := by simp
  have HSZ := Lib.hid hsz
  clear h hE hk z1 z2 z3 hz bA hl hA hi hz0 hz1 hz2 hb0 HEV hsz
  go_enter Try.func16, Try.ntmps16
  go_wp2_with fail
  refine HC.out.mono ?_
  rintro e w1 ⟨G, rfl, hO, hb⟩
  have hkb := (hb.block w.heap.size (by rw [HSZ.out]; omega)).trans HK.out
  have HKB := Lib.hid hkb
  have c0 := cell_blk hkb (i := 0) rfl
  have HB1 := Lib.hid (below_on HB0.out hb)
  have HTS := Lib.hid hO.tab_of
  clear hO HC hb hkb HK
  go_wp2_with (at_make; refine wpList_make_full _ rfl _ _ 26 rfl w1.heap.size 3 i0 (.int .i64 0) 1 Try.underlying26 HI.out.1 HI.out.2.1 HI.out.2.2.1 _ _ _ _ len rfl rfl rfl rfl (by rw [HI.out.2.2.2]; omega) (by unfold maxLen; omega) (Nat.le_refl _) ?_; intro w3 hO3 hg3; have HB3 := Lib.hid ((Below.refl _ _).grown hg3 (Nat.le_refl _) (fun j hj => by cases hj)); have c0 := cell_blk ((HB3.out.block w.heap.size (Array.getElem?_eq_some_iff.1 HKB.out).1).trans HKB.out) (i := 0) rfl)
  have hO4 : Own w3 w1.heap.size 3 1 (.slice (some ⟨w1.heap.size, 0, none⟩) len len) ((tally (fun j => place l k (start + (j : Int) * A)) len 0).map iC) := by
    rw [tally_zero]
    exact Own.full hO3 (made_ints len)
  have HO4 := Lib.hid hO4
  have hG := HB1.out.size
  clear hO3 hg3 hO4 HI c0
  go_loopg [42] k (fun g i wr => ∃ j : Nat, j + g = k ∧ i = .int .i64 j ∧ Hid (Own wr w1.heap.size 3 1 (.slice (some ⟨w1.heap.size, 0, none⟩) len len) ((tally (fun j => place l k (start + (j : Int) * A)) len j).map iC)) ∧ Hid (Below w1.heap.size w1 wr))
  case atStart => exact ⟨0, by omega, rfl, HO4, HB3⟩
  case round =>
    clear HO4 HB3
    obtain ⟨j, hj0, rfl, HO, HW⟩ := hrel
    have HJ := Lib.hid hj0
    have hj : j ≤ k := by omega
    clear hj0
    by_cases hlt : j < k
    · have hp := HPT.out j hlt
      have hm0 : 0 ≤ (j : Int) * A := Int.mul_nonneg (by omega) (by omega)
      have hm1 : (j : Int) * A ≤ 40000000000000000 := by
        have h1 : (j : Int) * A ≤ 1000 * A := Int.mul_le_mul_of_nonneg_right (by omega) (by omega)
        omega
      obtain ⟨X, hX⟩ : ∃ X, start + (j : Int) * A = X := ⟨_, rfl⟩
      rw [hX] at hp
      have hbp := HW.out.alloc HW.out.size (.cells #[.int .i64 X] 3)
      have hxb : (wr.alloc (.cells #[.int .i64 X] 3)).heap[wr.heap.size]? = some (.cells #[.int .i64 X] 3 (0, 0)) := (MapKept.heap_alloc wr _).1
      have C5 := Lib.hid (HIX.out G w.heap.size wr.heap.size X _ (HTS.out.below hbp) (cell_blk ((hbp.block w.heap.size (Array.getElem?_eq_some_iff.1 HKB.out).1).trans HKB.out) (i := 0) rfl) (cell_blk hxb (i := 0) rfl) hp.1 hp.2)
      have hI := HPL.out X hp.1 hp.2
      have HX := Lib.hid hX
      have HII : Hid (place l k X = (fun j : Nat => place l k (start + (j : Int) * A)) j) := Lib.hid (by simp only; rw [hX])
      generalize place l k X = I at *
      obtain ⟨y, hy⟩ : ∃ y, (tally (fun j => place l k (start + (j : Int) * A)) len j)[I]? = some y := ⟨_, List.getElem?_eq_getElem (by rw [tally_len]; exact hI)⟩
      have by_ := tally_mem (List.mem_of_getElem? hy)
      have y0 := by_.1
      have y1 : y ≤ 1000 := by omega
      have hO5 := HO.out.alloc (.cells #[.int .i64 X] 3)
      obtain ⟨d1, d2, _, _⟩ := hO5.at1 (map_get hy)
      have hO6 := hO5.set1 (map_get hy) (.int .i64 (y + 1))
      rw [← show iC (y + 1) = [Value.int .i64 (y + 1)] from rfl, ← List.map_set] at hO6
      rw [HII.out] at hy
      rw [show (tally (fun j => place l k (start + (j : Int) * A)) len j).set I (y + 1) = tally (fun j => place l k (start + (j : Int) * A)) len (j + 1) from by rw [HII.out]; exact tally_succ hy] at hO6
      have HO6 := Lib.hid hO6
      have HB6 := Lib.hid (hbp.setCell (p := ⟨w1.heap.size, I, none⟩) (Nat.le_refl _) (.int .i64 (y + 1)))
      clear hp hX hbp hxb hO5 hO6 hy by_
      have hmX : start + (j : Int) * A = X := HX.out
      go_wp2_with fail
      refine C5.out.mono ?_
      rintro e w6 ⟨rfl, rfl⟩
      clear hmX
      go_wp2_with fail
      go_roundg (k - (j + 1))
      case measure => have := HJ.out; omega
      case rel => exact ⟨j + 1, by omega, by go_num, HO6, HB6⟩
    · obtain rfl : j = k := by omega
      have hv := HO.out.base_le hG
      clear HO
      go_wp2
      go_ret2
      exact ⟨_, rfl, hv, below_on HB1.out HW.out⟩
end Go.Proofs.Ytfgcmlgdgmcffab
