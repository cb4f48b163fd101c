/- The contracts of the program's bloom.Has. -/
import Derived.Test.YtffgoekdjcempabBloomPut
import Derived.Test.YtffgoekdjcempabFindFunc
namespace Go.Proofs.Ytffgoekdjcempab
open Go.ChangeShapes Go.WideShapes Go.ChangeAt Go.RowKit
open Bloom Find

namespace Bloom
theorem any_has {B : List Bool} {ps : List Nat} (hl : ∀ p ∈ ps, p < B.length) : ((ps.map (fun p : Nat => (p : Int))).any (fun y => !(B.getD y.toNat false))) = !(hasB B ps) := by
  unfold hasB
  induction ps with
  | nil => rfl
  | cons p ps ih =>
    have ih := ih (fun q hq => hl q (List.mem_cons_of_mem _ hq))
    have hp := hl p (List.mem_cons_self ..)
    rw [List.map_cons, List.any_cons, List.all_cons, ih, Int.toNat_natCast, Bool.not_and]
    congr 1
    rw [List.getD_eq_getElem?_getD, List.getElem?_eq_getElem hp, Option.getD_some]
    cases B[p] <;> rfl
end Bloom

set_option maxRecDepth 100000 in
set_option maxHeartbeats 1000000 in
theorem hasClo_any (S K : Int) (a : Option Addr) (len cap : Nat) (B : List Bool) (X p : Nat) (w : World) (hT : Tab w a len cap 1 (B.map bC)) (hX : w.heap[X]? = some (.cells #[.int .i64 S, .int .i64 K, .slice a len cap] 24 (0, 0))) (hp : p < len) :
    Calls Try.prog 70 #[.int .i64 p, .pointer (some ⟨X, 0, none⟩)] w fun e w' => e = .returned (.bool (!(B.getD p false))) ∧ w = w' := by
  have hl := hT.hlen
  rw [List.length_map] at hl
  have hle := hT.hle
  have hm := hT.hmax
  unfold maxLen at hm
  obtain ⟨y, hy⟩ : ∃ y, B[p]? = some y := ⟨_, List.getElem?_eq_getElem (by omega)⟩
  have hg : B.getD p false = y := by rw [List.getD_eq_getElem?_getD, hy]; rfl
  rw [hg]
  obtain ⟨⟨c0, c1, c2⟩, _⟩ := three_cells hX
  obtain ⟨b1, o1, ha, hbs, d0⟩ := hT.one (Below.refl _ _) (map_get hy)
  subst ha
  clear hT hX hy hg hl
  go_enter Try.func70, Try.ntmps70
  go_wp2
  go_ret
  exact ⟨rfl, rfl⟩

set_option maxRecDepth 100000 in
set_option maxHeartbeats 2000000 in
theorem fhas_bad (S K : Int) (a : Option Addr) (len cap : Nat) (x : Int) (hm : len ≤ 9223372036854775807) (w : World) (hE : filterE S K len ≠ 0) :
    Calls Try.prog 44 #[filterV S K a len cap, .int .i64 x] w fun e w' => e = .returned (.tuple #[.bool false, .int .i64 (filterE S K len)]) ∧ Below w.heap.size w w' := by
  have HC := Lib.hid (fun W => fcheck_any S K a len cap hm W)
  have t : (filterE S K len != 0) = true := by simpa using hE
  unfold filterV at HC ⊢
  clear hE
  generalize filterE S K len = E at *
  have HB0 := Lib.hid (show Below w.heap.size w (w.alloc (.cells #[.int .i64 S, .int .i64 K, .slice a len cap] 24)) from (Below.refl _ _).alloc (Nat.le_refl _) _)
  go_enter Try.func44, Try.ntmps44
  go_wp2_with fail
  refine (HC.out _).mono ?_
  rintro e w1 ⟨rfl, hb1⟩
  have HB1 := Lib.hid (below_on HB0.out hb1)
  clear hb1
  go_wp2
  go_ret2
  exact ⟨rfl, HB1.out⟩

set_option maxRecDepth 100000 in
set_option maxHeartbeats 4000000 in
theorem fhas_ok (s k : Nat) (a : Option Addr) (len cap : Nat) (B : List Bool) (x : Int) (w : World) (hT : Tab w a len cap 1 (B.map bC)) (hE : filterE s k len = 0) :
    Calls Try.prog 44 #[filterV s k a len cap, .int .i64 x] w fun e w' => e = .returned (.tuple #[.bool (hasB B (places x s k)), .int .i64 0]) ∧ Below w.heap.size w w' := by
  obtain ⟨s', k', e1, e2, h1, h2, h3, h4, h5⟩ := filterE_zero hE
  obtain rfl : s' = s := by omega
  obtain rfl : k' = k := by omega
  clear e1 e2
  subst h5
  have hl := hT.hlen
  rw [List.length_map] at hl
  have hle := hT.hle
  have hmx := hT.hmax
  unfold maxLen at hmx
  have HC := fun W => fcheck_any len k' a len cap (by omega) W
  rw [hE] at HC
  have HC := Lib.hid HC
  have HP := Lib.hid (fun W => positions_any len k' a len cap x h1 h2 h3 h4 W)
  have HA := Lib.hid (any_has (B := B) (ps := places x len k') (fun p hp => by rw [hl]; exact places_lt h1 p hp))
  have HT := Lib.hid hT
  obtain ⟨h, hh⟩ : ∃ h, hasB B (places x len k') = h := ⟨_, rfl⟩
  rw [hh] at HA ⊢
  clear hh
  unfold filterV at HC HP ⊢
  have HB0 := Lib.hid (show Below w.heap.size w (w.alloc (.cells #[.int .i64 len, .int .i64 k', .slice a len cap] 24)) from (Below.refl _ _).alloc (Nat.le_refl _) _)
  have HX0 := Lib.hid (MapKept.heap_alloc w (.cells #[.int .i64 len, .int .i64 k', .slice a len cap] 24)).1
  clear hE hT hl
  go_enter Try.func44, Try.ntmps44
  go_wp2_with fail
  refine (HC.out _).mono ?_
  rintro e w1 ⟨rfl, hb1⟩
  have HB1 := Lib.hid (below_on HB0.out hb1)
  have K1 := Lib.hid (kept_blk3 hb1 HX0.out)
  obtain ⟨X, hX⟩ : ∃ X, w.heap.size = X := ⟨_, rfl⟩
  rw [hX] at K1 ⊢
  clear hb1 HC HB0 HX0
  obtain ⟨⟨a0, a1, a2⟩, _⟩ := three_cells K1.out
  go_wp2_with fail
  refine (HP.out _).mono ?_
  rintro e w2 ⟨v2, rfl, hO2, hb2⟩
  obtain ⟨q, c2, rfl, hT2⟩ := hO2.tab
  rw [List.length_map, placesI_len] at hT2 ⊢
  have HB2 := Lib.hid (below_on HB1.out hb2)
  replace K1 := Lib.hid (kept_blk3 hb2 K1.out)
  have C := containsFunc_any 70 (some ⟨X, 0, none⟩) (fun y => !(B.getD y.toNat false)) q k' c2 (placesI x len k') w2 hT2 (fun _ _ => rfl) (fun y hy W hb => by
    obtain ⟨p, hp, rfl⟩ := List.mem_map.1 hy
    rw [Int.toNat_natCast]
    refine (hasClo_any len k' a len cap B X p W ((HT.out.below HB2.out).below hb) (kept_blk3 hb K1.out) (places_lt h1 p hp)).mono ?_
    rintro e w' ⟨rfl, rfl⟩
    exact ⟨rfl, Below.refl _ _⟩)
  unfold placesI at C
  rw [HA.out] at C
  have C := Lib.hid C
  clear a0 a1 a2 hO2 hT2 hb2 HP HA HB1
  go_wp2_with fail
  refine C.out.mono ?_
  rintro e w3 ⟨rfl, hb3⟩
  have HB3 := Lib.hid (below_on HB2.out hb3)
  clear hb3 C
  go_wp2
  go_ret2
  exact ⟨by simp, HB3.out⟩
end Go.Proofs.Ytffgoekdjcempab
