/- The contract of the document's own positions of a key (culref.Places). -/
import Derived.Test.YtcfejbhoeichnaaBloomPut
import Derived.Test.YtcfejbhoeichnaaRefMixOne
import Derived.Test.YtcfejbhoeichnaaStepRows
import Derived.Deep.DeepCutAuto
import Derived.Deep.RegionWith
import Derived.RegionTactic
import Derived.BigRegion
namespace Go.Proofs.Ytcfejbhoeichnaa
open Go.ChangeShapes Go.WideShapes Go.ChangeAt Go.RowKit
open Bloom
namespace Bloom
theorem state_at (x : Nat) (hx : x < MixMath.M) : ∀ i : Nat, stateAt x i = (x + i * 11400714819323198485) % MixMath.M
  | 0 => by rw [Nat.zero_mul, Nat.add_zero, Nat.mod_eq_of_lt hx]; rfl
  | i + 1 => by
    rw [stateAt, stepN, state_at x hx i, Nat.mod_add_mod]
    congr 1
    rw [Nat.add_mul]
    omega
/-- the first i of them -/
def placesUp (x : Int) (s i : Nat) : List Int := (places x s i).map (fun p : Nat => (p : Int))
theorem placesUp_succ (x : Int) (s i : Nat) : placesUp x s (i + 1) = placesUp x s i ++ [((placeN (keyN x) s i : Nat) : Int)] := by
  unfold placesUp places
  rw [List.range_succ, List.map_append, List.map_append]
  rfl
theorem placesUp_len (x : Int) (s i : Nat) : (placesUp x s i).length = i := by unfold placesUp; rw [List.length_map, places_len]
theorem arg_walk {x i : Int} {j : Nat} (hi : i = (j : Int) + 1) : IntKind.u64.wrap (IntKind.u64.wrap x + IntKind.u64.wrap (IntKind.u64.wrap i * 11400714819323198485)) = ((stateAt (keyN x) (j + 1) : Nat) : Int) := by
  have hk : ((keyN x : Nat) : Int) = x % 18446744073709551616 := by rw [← key_walk, IntKind.wrap_u64]
  rw [state_at _ (keyN_lt x), Int.natCast_emod, Int.natCast_add, Int.natCast_mul, hk, IntKind.wrap_u64, IntKind.wrap_u64, IntKind.wrap_u64, IntKind.wrap_u64, hi, show ((MixMath.M : Nat) : Int) = 18446744073709551616 from rfl, show ((11400714819323198485 : Nat) : Int) = 11400714819323198485 from rfl, Int.natCast_add]
  simp only [Int.natCast_one]
  omega
end Bloom

set_option maxRecDepth 100000 in
set_option maxHeartbeats 4000000 in
theorem refPlaces_any (s k : Nat) (a : Option Addr) (len cap : Nat) (x : Int) (h1 : 1 ≤ s) (h2 : s ≤ 256) (h4 : k ≤ 8) (w : World) :
    Calls Try.prog 16 #[.agg #[.int .i64 s, .int .i64 k, .slice a len cap], .int .i64 x] w fun e w' => ∃ v, e = .returned v ∧ Own w' w.heap.size 3 1 v ((placesUp x s k).map iC) ∧ Below w.heap.size w w' := by
  have HB0 := Lib.hid (show Below w.heap.size w (w.alloc (.cells #[.int .i64 s, .int .i64 k, .slice a len cap] 24)) from (Below.refl _ _).alloc (Nat.le_refl _) _)
  have HX0 := Lib.hid (MapKept.heap_alloc w (.cells #[.int .i64 s, .int .i64 k, .slice a len cap] 24)).1
  obtain ⟨v0, hv0⟩ : ∃ v, w.alloc (.cells #[.int .i64 s, .int .i64 k, .slice a len cap] 24) = v := ⟨_, rfl⟩
  rw [hv0] at HB0 HX0
  have HV0 := Lib.hid hv0
  clear hv0
  go_enter Try.func16, Try.ntmps16
  go_upto_region 1 with fail
  rw [HV0.out]
  obtain ⟨X, hX⟩ : ∃ X, w.heap.size = X := ⟨_, rfl⟩
  rw [hX] at HX0 ⊢
  have HX := Lib.hid hX
  have hXs : X < v0.heap.size := (Array.getElem?_eq_some_iff.1 HX0.out).1
  clear HV0 hX
  go_wp2_with fail
  go_loopg [5, 6] k (fun g v i wr => ∃ j : Nat, j + g = k ∧ i = .int .i64 ((j : Int) + 1) ∧ Hid (Own wr v0.heap.size 3 1 v ((placesUp x s j).map iC)) ∧ Hid (Below v0.heap.size v0 wr))
  case atStart => exact ⟨0, by omega, rfl, Lib.hid (Own.nil _ _ _ _), Lib.hid (Below.refl _ _)⟩
  case round =>
    obtain ⟨j, hj0, rfl, HV, HB⟩ := hrel
    have HJ := Lib.hid hj0
    have hj : j ≤ k := by omega
    clear hj0
    have K1 := Lib.hid (kept_blk3 HB.out HX0.out)
    by_cases hlt : j < k
    · obtain ⟨⟨c0, c1, c2⟩, _⟩ := three_cells K1.out
      have HA := Lib.hid (arg_walk (x := x) (i := (j : Int) + 1) (j := j) rfl)
      have HM := Lib.hid (fun W => refMix_any (stateAt (keyN x) (j + 1)) (stateAt_lt (keyN_lt x) (j + 1)) W)
      have hs3 : ((j : Int) + 1 ≤ (k : Int)) := by omega
      have HZ : Hid (IntKind.i64.wrap (Int.tmod ((MixMath.mixN (stateAt (keyN x) (j + 1)) : Nat) : Int) (IntKind.u64.wrap (s : Int))) = ((placeN (keyN x) s j : Nat) : Int)) := Lib.hid (by
        rw [show IntKind.u64.wrap (s : Int) = (s : Int) from by rw [IntKind.wrap_u64]; omega, place_walk h1 h2]
        have := placeN_lt (x := keyN x) (i := j) h1
        unfold placeN at this ⊢
        rw [IntKind.wrap_i64]
        omega)
      have HUL : Hid (((placesUp x s j).map iC).length = j) := Lib.hid (by rw [List.length_map, placesUp_len])
      have hbs := HB.out.size
      have hws : ¬ (IntKind.u64.wrap (s : Int) = 0) := by rw [IntKind.wrap_u64]; omega
      obtain ⟨wo, hwo⟩ : ∃ wo, wo = wr := ⟨_, rfl⟩
      subst hwo
      go_wp2_with fail
      go_region_law (first
        | (go_simp; go_at_call 41; rw [HA.out]; refine (HM.out _).mono ?_; rintro e w5 ⟨rfl, rfl⟩)
        | (refine step_append_rows _ rfl _ _ 34 rfl v0.heap.size 3 _ 1 8 Try.underlying34 info_int rfl (by decide) _ ((placesUp x s j).map iC) (by simp [Act.eval, Act.put]) ((HV.out.alloc _).drew) ⟨wo.heap.size, 0, none⟩ 1 1 [iC (IntKind.i64.wrap (Int.tmod ((MixMath.mixN (stateAt (keyN x) (j + 1)) : Nat) : Int) (IntKind.u64.wrap (s : Int))))] (by decide) rfl (by simp [Act.eval, Act.put]) (by simp [iC]) (one_row _ (iC (IntKind.i64.wrap (Int.tmod ((MixMath.mixN (stateAt (keyN x) (j + 1)) : Nat) : Int) (IntKind.u64.wrap (s : Int))))) 3 _ (by simp)) (by simp [iC, Value.oneCell']) (by rw [HUL.out]; omega) (by decide) (by simp; omega) ?_; intro g6 c6 w6 hO6 hg6))
      all_goals
        rw [HZ.out, ← List.map_singleton (f := iC) (a := ((placeN (keyN x) s j : Nat) : Int)), ← List.map_append, ← placesUp_succ] at hO6
        have hu := ((HV.out.alloc (.cells #[.int .i64 (IntKind.i64.wrap (Int.tmod ((MixMath.mixN (stateAt (keyN x) (j + 1)) : Nat) : Int) (IntKind.u64.wrap (s : Int))))] 3)).drew).under ((HB.out.alloc hbs _).drew) (Nat.le_refl _) (by simp; omega) hg6
        rw [show ((placesUp x s j).map iC).length = (placesUp x s j).length from List.length_map ..] at hO6
        have hO7 := Lib.hid hO6
        have hu7 := Lib.hid hu
        clear hO6 hu hg6
        go_wp2_with fail
        go_roundg (k - (j + 1))
        case measure => have := HJ.out; omega
        case rel => exact ⟨j + 1, by omega, by go_num, hO7, hu7⟩
    · obtain rfl : j = k := by omega
      have hV := HV.out.base_le HB0.out.size
      have hb := Lib.hid (below_on HB0.out HB.out)
      obtain ⟨⟨c0, c1, c2⟩, _⟩ := three_cells K1.out
      have HO := Lib.hid hV
      have hs3 : ¬ ((j : Int) + 1 ≤ (j : Int)) := by omega
      clear hV HV HB
      go_wp2
      go_ret
      exact ⟨_, rfl, HO.out, hb.out⟩
end Go.Proofs.Ytcfejbhoeichnaa
