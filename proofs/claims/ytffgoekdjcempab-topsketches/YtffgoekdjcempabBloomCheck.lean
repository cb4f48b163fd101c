/- The contracts of the program's bloom.Check and bloom.positions. -/
import Derived.Test.YtffgoekdjcempabGr12
import Derived.Test.YtffgoekdjcempabGr6
import Derived.Deep.LoopGhost
import Derived.Deep.DeepCutAuto
import Derived.WalkKit
namespace Go.Proofs.Ytffgoekdjcempab
open Go.ChangeShapes Go.WideShapes Go.ChangeAt Go.RowKit
open Bloom

def filterE (S K : Int) (n : Nat) : Int := if S < 1 ∨ 256 < S ∨ K < 1 ∨ 8 < K then 1 else if (n : Int) ≠ S then 7 else 0
theorem filterE_zero {S K : Int} {n : Nat} (h : filterE S K n = 0) : ∃ s k : Nat, S = s ∧ K = k ∧ 1 ≤ s ∧ s ≤ 256 ∧ 1 ≤ k ∧ k ≤ 8 ∧ n = s := by
  unfold filterE at h
  split at h
  · cases h
  · split at h
    · cases h
    · exact ⟨S.toNat, K.toNat, by omega, by omega, by omega, by omega, by omega, by omega, by omega⟩
theorem filterE_ok {s k : Nat} (h1 : 1 ≤ s) (h2 : s ≤ 256) (h3 : 1 ≤ k) (h4 : k ≤ 8) : filterE s k s = 0 := by
  unfold filterE
  rw [if_neg (by omega), if_neg (by omega)]
def filterV (S K : Int) (a : Option Addr) (len cap : Nat) : Value := .agg #[.int .i64 S, .int .i64 K, .slice a len cap]

set_option maxRecDepth 100000 in
set_option maxHeartbeats 1000000 in
theorem fcheck_any (S K : Int) (a : Option Addr) (len cap : Nat) (hm : len ≤ 9223372036854775807) (w : World) :
    Calls Try.prog 50 #[filterV S K a len cap] w fun e w' => e = .returned (.int .i64 (filterE S K len)) ∧ Below w.heap.size w w' := by
  unfold filterV
  have hb : Below w.heap.size w (w.alloc (.cells #[.int .i64 S, .int .i64 K, .slice a len cap] 24)) := (Below.refl _ _).alloc (Nat.le_refl _) _
  have HB := Lib.hid hb
  clear hb
  by_cases h1 : S < 1
  · have E : filterE S K len = 1 := if_pos (Or.inl h1)
    rw [E]
    clear E
    go_enter Try.func50, Try.ntmps50
    go_wp2
    go_ret
    exact ⟨rfl, HB.out⟩
  have h1' : 1 ≤ S := by omega
  by_cases h2 : 256 < S
  · have E : filterE S K len = 1 := if_pos (Or.inr (Or.inl h2))
    rw [E]
    clear E h1
    go_enter Try.func50, Try.ntmps50
    go_wp2
    go_ret
    exact ⟨rfl, HB.out⟩
  have h2' : S ≤ 256 := by omega
  by_cases h3 : K < 1
  · have E : filterE S K len = 1 := if_pos (Or.inr (Or.inr (Or.inl h3)))
    rw [E]
    clear E h1 h2
    go_enter Try.func50, Try.ntmps50
    go_wp2
    go_ret
    exact ⟨rfl, HB.out⟩
  have h3' : 1 ≤ K := by omega
  by_cases h4 : 8 < K
  · have E : filterE S K len = 1 := if_pos (Or.inr (Or.inr (Or.inr h4)))
    rw [E]
    clear E h1 h2 h3
    go_enter Try.func50, Try.ntmps50
    go_wp2
    go_ret
    exact ⟨rfl, HB.out⟩
  have h4' : K ≤ 8 := by omega
  clear h1 h2 h3 h4
  by_cases h5 : (len : Int) ≠ S
  · have E : filterE S K len = 7 := (if_neg (by omega)).trans (if_pos h5)
    rw [E]
    have t : ((len : Int) != S) = true := by simpa using h5
    clear E h5
    go_enter Try.func50, Try.ntmps50
    go_wp2
    go_ret
    exact ⟨rfl, HB.out⟩
  · have E : filterE S K len = 0 := (if_neg (by omega)).trans (if_neg h5)
    rw [E]
    have t : ((len : Int) != S) = false := by simpa using h5
    clear E h5
    go_enter Try.func50, Try.ntmps50
    go_wp2
    go_ret
    exact ⟨rfl, HB.out⟩

set_option maxRecDepth 100000 in
set_option maxHeartbeats 2000000 in
theorem positions_any (s k : Nat) (a : Option Addr) (len cap : Nat) (x : Int) (h1 : 1 ≤ s) (h2 : s ≤ 256) (h3 : 1 ≤ k) (h4 : k ≤ 8) (w : World) :
    Calls Try.prog 51 #[filterV s k a len cap, .int .i64 x] w fun e w' => ∃ v, e = .returned v ∧ Own w' w.heap.size 3 1 v ((placesI x s k).map iC) ∧ Below w.heap.size w w' := by
  unfold filterV
  obtain ⟨i0, hi, hz0, hz1, hz2⟩ := info_parts info_int
  have HI := Lib.hid (And.intro hi (And.intro hz0 (And.intro hz1 hz2)))
  have HB0 := Lib.hid (show Below w.heap.size w (w.alloc (.cells #[.int .i64 s, .int .i64 k, .slice a len cap] 24)) from (Below.refl _ _).alloc (Nat.le_refl _) _)
  have HX := Lib.hid (MapKept.heap_alloc w (.cells #[.int .i64 s, .int .i64 k, .slice a len cap] 24)).1
  have HK := Lib.hid (key_walk x)
  have HPW := Lib.hid (fun y => place_walk (x := y) h1 h2)
  clear hi hz0 hz1 hz2
  go_enter Try.func51, Try.ntmps51
  go_upto_region 1 with fail
  obtain ⟨w1, hw1⟩ : ∃ v, w.alloc (.cells #[.int .i64 s, .int .i64 k, .slice a len cap] 24) = v := ⟨_, rfl⟩
  obtain ⟨X, hX⟩ : ∃ X, w.heap.size = X := ⟨_, rfl⟩
  rw [hw1] at HX HB0 ⊢
  rw [hX] at HX ⊢
  have HXX := Lib.hid hX
  have c0 : w1.cell? ⟨X, 1, none⟩ = some (.int .i64 k) := cell_blk HX.out rfl
  clear hw1 hX
  go_wp2_with (at_make; refine wpList_make_full _ rfl _ _ 53 rfl w1.heap.size 3 i0 (.int .i64 0) 1 Try.underlying53 HI.out.1 HI.out.2.1 HI.out.2.2.1 _ _ _ _ k rfl rfl rfl rfl (by rw [HI.out.2.2.2]; omega) (by unfold maxLen; omega) (Nat.le_refl _) ?_; intro w3 hO3 hg3)
  have hO4 : Own w3 w1.heap.size 3 1 (.slice (some ⟨w1.heap.size, 0, none⟩) k k) ((placesTo x s k 0).map iC) := by
    rw [placesTo_zero]
    exact Own.full hO3 (made_ints k)
  have HO4 := Lib.hid hO4
  have hg4 : Below w1.heap.size w1 w3 := (Below.refl _ _).grown hg3 (Nat.le_refl _) (fun j hj => by cases hj)
  have HB3 := Lib.hid (below_on HB0.out hg4)
  have HG := Lib.hid HB0.out.size
  have HXL := Lib.hid (Array.getElem?_eq_some_iff.1 HX.out).1
  have HX3 : Hid (w3.heap[X]? = some (.cells #[.int .i64 s, .int .i64 k, .slice a len cap] 24 (0, 0))) := Lib.hid ((hg4.block X HXL.out).trans HX.out)
  generalize hGG : w1.heap.size = G at *
  clear hO3 hg3 hO4 HI hg4 HX HB0 c0 hGG
  have HXR : Hid (∀ wr, Below G w3 wr → wr.cell? ⟨X, 0, none⟩ = some (.int .i64 s)) := Lib.hid (fun wr hb => by
    refine cell_blk (cs := #[.int .i64 s, .int .i64 k, .slice a len cap]) (t := 24) ?_ rfl
    exact (hb.block X HXL.out).trans HX3.out)
  rw [HK.out]
  obtain ⟨y0, hy0⟩ : ∃ y, keyN x = y := ⟨_, rfl⟩
  have hyl : y0 < MixMath.M := by rw [← hy0]; exact keyN_lt x
  have HY := Lib.hid hy0
  rw [hy0]
  clear hy0 HK HX3
  go_wp2_with fail
  go_loopg [6, 17] k (fun g st i wr => ∃ j : Nat, j + g = k ∧ st = .int .u64 (stateAt y0 j : Nat) ∧ i = .int .i64 j ∧ Hid (Own wr G 3 1 (.slice (some ⟨G, 0, none⟩) k k) ((placesTo x s k j).map iC)) ∧ Hid (Below G w3 wr))
  case atStart => exact ⟨0, by omega, rfl, rfl, HO4, Lib.hid (Below.refl _ _)⟩
  case round =>
    clear HO4
    obtain ⟨j, hj0, rfl, rfl, HO, HW⟩ := hrel
    have HJ := Lib.hid hj0
    have hj : j ≤ k := by omega
    clear hj0
    by_cases hlt : j < k
    · have C1 := Lib.hid (next_any (stateAt y0 j) (stateAt_lt hyl j) wr)
      have hst : stepN (stateAt y0 j) = stateAt y0 (j + 1) := rfl
      rw [hst] at C1
      have c0 := HXR.out wr HW.out
      have pw := HPW.out (stateAt y0 (j + 1))
      have hN := placesTo_succ (k := x) (s := s) hlt
      have hpl := placeN_lt (x := keyN x) (i := j) h1
      have hp0 : MixMath.mixN (stateAt y0 (j + 1)) % s = placeN (keyN x) s j := by rw [HY.out]; rfl
      rw [hp0] at pw
      have hml : MixMath.mixN (stateAt y0 (j + 1)) < MixMath.M := MixMath.mixN_lt _
      obtain ⟨d1, d2, _, _⟩ := HO.out.at1 (map_get (placesTo_get (k := x) (s := s) hlt))
      have hS := HO.out.set1 (map_get (placesTo_get (k := x) (s := s) hlt)) (.int .i64 (placeN (keyN x) s j : Nat))
      rw [← show iC (placeN (keyN x) s j : Nat) = [Value.int .i64 (placeN (keyN x) s j : Nat)] from rfl, ← List.map_set, hN] at hS
      have HS := Lib.hid hS
      have HB4 := Lib.hid (HW.out.setCell (p := ⟨G, j, none⟩) (Nat.le_refl _) (.int .i64 (placeN (keyN x) s j : Nat)))
      clear hN hS hst hp0
      generalize placeN (keyN x) s j = p at *
      obtain ⟨m, hm⟩ : ∃ m, MixMath.mixN (stateAt y0 (j + 1)) = m := ⟨_, rfl⟩
      rw [hm] at pw C1 hml
      clear hm
      obtain ⟨st2, hst2⟩ : ∃ z, stateAt y0 (j + 1) = z := ⟨_, rfl⟩
      rw [hst2] at C1
      have HST := Lib.hid hst2
      clear hst2
      go_wp2_with fail
      refine C1.out.mono ?_
      rintro e w4 ⟨rfl, hw4⟩
      rw [← hw4]
      clear hw4 C1
      go_wp2_with fail
      go_roundg (k - (j + 1))
      case measure => have := HJ.out; omega
      case rel => exact ⟨j + 1, by omega, by rw [HST.out], by go_num, HS, HB4⟩
    · obtain rfl : j = k := by omega
      rw [placesTo_all] at HO
      have hbb := HB3.out.trans (HW.out.mono HG.out)
      go_wp2
      go_ret
      exact ⟨_, rfl, HO.out.base_le HG.out, hbb⟩
end Go.Proofs.Ytffgoekdjcempab
