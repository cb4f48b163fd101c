/- The contracts of the laws' own empty and put (culkeep.empty, culkeep.put). -/
import Derived.Test.YtoijeafhohcbdaaBloomAll
import Derived.Test.YtoijeafhohcbdaaWithin
import Derived.Test.YtoijeafhohcbdaaSubSlice
import Derived.Deep.RegionWith
import Derived.RegionTactic
import Derived.BigRegion
namespace Go.Proofs.Ytoijeafhohcbdaa
open Go.ChangeShapes Go.WideShapes Go.ChangeAt Go.RowKit
open Bloom

namespace Bloom
def sizeB (a : Int) : Nat := (1 + withI a 256).toNat
def waysB (a : Int) : Nat := (1 + withI a 8).toNat
theorem sizeB_bd (a : Int) : ((sizeB a : Nat) : Int) = 1 + withI a 256 ∧ 1 ≤ sizeB a ∧ sizeB a ≤ 256 := by
  have := withI_bd a 256 (by omega)
  unfold sizeB
  omega
theorem waysB_bd (a : Int) : ((waysB a : Nat) : Int) = 1 + withI a 8 ∧ 1 ≤ waysB a ∧ waysB a ≤ 8 := by
  have := withI_bd a 8 (by omega)
  unfold waysB
  omega
theorem flat_boolsB (l : List Bool) : (l.map bC).flatten = l.map Value.bool := by
  induction l with
  | nil => rfl
  | cons x l ih => rw [List.map_cons, List.flatten_cons, ih]; rfl
theorem cells_bools (n : Nat) : (List.replicate n (Value.bool false)) = (madeCells (Value.bool false).cells (n * 1)).toList := by
  rw [Nat.mul_one]
  apply List.ext_getElem?
  intro i
  simp [madeCells, Value.cells, List.getElem?_replicate]
  by_cases h : i < n
  · rw [if_pos h, List.getElem?_eq_getElem (by simpa using h)]
    simp [Nat.mod_one]
  · rw [if_neg h, List.getElem?_eq_none (by simpa using h)]
    rfl
theorem made_runB (n : Nat) (hn : n ≤ 256) (W : World) : (Instr.makeSlice 31 (.int .i64 (n : Int)) (.int .i64 (n : Int))).run Try.prog W = .ok (.slice (some ⟨W.heap.size, 0, none⟩) n n) (W.alloc (.cells (List.replicate n (Value.bool false)).toArray 4)) := by
  obtain ⟨i0, hi, hz0, hz1, hz2⟩ := info_parts info_bool
  have hr := run_make (P := Try.prog) W 31 4 i0 (.bool false) Try.underlying31 hi hz0 .i64 .i64 n n (by omega) (Int.le_refl _) (by rw [hz2]; omega) (by omega)
  rw [hz1] at hr
  rw [cells_bools]
  simpa using hr
theorem own_falses {W : World} {G n base : Nat} (hG : W.heap[G]? = some (.cells (List.replicate n (Value.bool false)).toArray 4 (0, 0))) (hb : base ≤ G) (hn : n ≤ 256) : Own W base 4 1 (.slice (some ⟨G, 0, none⟩) n n) ((List.replicate n false).map bC) := by
  have hm : n ≤ maxLen := by unfold maxLen; omega
  refine ⟨⟨?_, .inr ⟨G, n, _, by simp, hb, hG, by simp, hm, by simp, ?_⟩⟩, rows_of bC_len _⟩
  · rw [flat_boolsB]; simp
  · rw [flat_boolsB]; simp
end Bloom

set_option maxRecDepth 100000 in
set_option maxHeartbeats 2000000 in
theorem empty_any (a b : Int) (w : World) (ha : -9223372036854775808 ≤ a ∧ a ≤ 9223372036854775807) (hb : -9223372036854775808 ≤ b ∧ b ≤ 9223372036854775807) :
    Calls Try.prog 32 #[.int .i64 a, .int .i64 b] w fun e w' => ∃ v, e = .returned (.agg #[.int .i64 (sizeB a : Nat), .int .i64 (waysB b : Nat), v]) ∧ Own w' w.heap.size 4 1 v ((List.replicate (sizeB a) false).map bC) ∧ Below w.heap.size w w' := by
  have HW1 := Lib.hid (fun W => within_int a 256 W ha (by omega) (by omega))
  have HW2 := Lib.hid (fun W => within_int b 8 W hb (by omega) (by omega))
  have e1 := sizeB_bd a
  have e2 := waysB_bd b
  generalize sizeB a = s at *
  generalize waysB b = k at *
  have HS := Lib.hid e1.1.symm
  have HK := Lib.hid e2.1.symm
  have z1 := withI_bd a 256 (by omega)
  have z2 := withI_bd b 8 (by omega)
  generalize withI a 256 = A at *
  generalize withI b 8 = B at *
  have s1 := e1.2.1
  have s2 := e1.2.2
  have k1 := e2.2.1
  have k2 := e2.2.2
  have hmk := fun W => made_runB s s2 W
  obtain ⟨Z, hZ⟩ : ∃ Z, (List.replicate s (Value.bool false)).toArray = Z := ⟨_, rfl⟩
  rw [hZ] at hmk
  have HZ := Lib.hid hZ
  have hR0 := (MapKept.heap_alloc w (.cells #[.int .i64 0, .int .i64 0, .slice none 0 0] 33)).1
  have HB0 := Lib.hid (show Below w.heap.size w (w.alloc (.cells #[.int .i64 0, .int .i64 0, .slice none 0 0] 33)) from (Below.refl _ _).alloc (Nat.le_refl _) _)
  obtain ⟨w1, hw1⟩ : ∃ w1, w.alloc (.cells #[.int .i64 0, .int .i64 0, .slice none 0 0] 33) = w1 := ⟨_, rfl⟩
  rw [hw1] at hR0 HB0
  have HR0 := Lib.hid hR0
  have HV0 := Lib.hid hw1
  clear ha hb e1 e2 hZ hR0 hw1
  go_enter Try.func32, Try.ntmps32
  go_upto_region 1 with fail
  rw [HV0.out]
  obtain ⟨X, hX⟩ : ∃ X, w.heap.size = X := ⟨_, rfl⟩
  have HX := Lib.hid hX
  rw [hX] at HR0 ⊢
  have hX1 : X < w1.heap.size := (Array.getElem?_eq_some_iff.1 HR0.out).1
  clear HV0 hX
  go_wp2_with fail
  refine (HW1.out _).mono ?_
  rintro e v1 ⟨rfl, hv1⟩
  rw [← hv1]
  clear hv1 HW1
  go_upto_region 2 with fail
  rw [HS.out]
  clear HS
  obtain ⟨⟨c0, c1, c2⟩, f0, f1, f2⟩ := three_cells HR0.out
  go_wp2_with fail
  go_region_with (first | (go_at_call 25; refine (HW2.out _).mono ?_; rintro e w5 ⟨rfl, rfl⟩; (try rw [HK.out])))
  all_goals rw [show IntKind.i64.wrap (1 + B) = (k : Int) from by rw [HK.out, IntKind.wrap_i64]; omega]
  all_goals (go_wp2_with fail)
  all_goals
    have h3 := three_set (x' := s) (y' := k) (v' := .slice (some ⟨w1.heap.size, 0, none⟩) s s) HR0.out
    have hXX : w.heap.size ≤ X := by rw [HX.out]; exact Nat.le_refl _
    have hb3 := ((HB0.out.setCell (p := ⟨X, 0, none⟩) hXX (.int .i64 s)).setCell (p := ⟨X, 1, none⟩) hXX (.int .i64 k)).setCell (p := ⟨X, 2, none⟩) hXX (.slice (some ⟨w1.heap.size, 0, none⟩) s s)
    have hsz : (((w1.setCell ⟨X, 0, none⟩ (.int .i64 s)).setCell ⟨X, 1, none⟩ (.int .i64 k)).setCell ⟨X, 2, none⟩ (.slice (some ⟨w1.heap.size, 0, none⟩) s s)).heap.size = w1.heap.size := by simp
    clear c0 c1 c2 f0 f1 f2
    generalize (((w1.setCell { block := X, off := 0 } (Value.int IntKind.i64 s)).setCell { block := X, off := 1 } (Value.int IntKind.i64 k)).setCell { block := X, off := 2 } (Value.slice (some { block := w1.heap.size, off := 0 }) s s)) = w3 at *
    have hG := (MapKept.heap_alloc w3 (.cells Z 4)).1
    rw [hsz, ← HZ.out] at hG
    have hA : Below w3.heap.size w3 (w3.alloc (.cells Z 4)) := (Below.refl _ _).alloc (Nat.le_refl _) _
    have h4 := kept_blk3 hA h3
    have hO := own_falses (base := w.heap.size) (W := (w3.alloc (.cells (List.replicate s (Value.bool false)).toArray 4)).drew) hG (by rw [HX.out]; omega) s2
    rw [HZ.out] at hO
    obtain ⟨⟨z0, z1, z2⟩, _⟩ := three_cells (w := (w3.alloc (.cells Z 4)).drew) h4
    have hbz : Below w.heap.size w (w3.alloc (.cells Z 4)).drew := (below_on hb3 hA).drew
    generalize (w3.alloc (.cells Z 4)).drew = w9 at *
    clear h3 h4 hA hG hsz
    try simp only [Exit.inBlock, Exit.then]
    refine bodyPost_ret (by simp [results, Try.results32, go_sem, z0, z1, z2, Result.andThen]; try rfl) rfl ?_
    exact ⟨_, rfl, hO, hbz⟩
end Go.Proofs.Ytoijeafhohcbdaa
