/- The contract of the program's few.add: a counter is added to counters of the call's own. -/
import Derived.Test.YtffgoekdjcempaaGreatFewFind
import Derived.Test.YtffgoekdjcempaaGreatFewSum
import Derived.Test.YtffgoekdjcempaaGreatInsertCounters
import Derived.RegionTactic
import Derived.BigRegion
namespace Go.Proofs.YtffgoekdjcempaaGreat
open Go.ChangeShapes Go.WideShapes Go.ChangeAt Go.RowKit
open Few

namespace Few
theorem set_two {C : List (Int × Int)} {i : Nat} {key m s : Int} : (C.map iiC).set i ((iiC (key, m)).set 1 (.int .i64 s)) = (C.set i (key, s)).map iiC := by
  rw [List.map_set]; rfl
theorem own_slice {w : World} {base : Nat} {e : TypeId} {v : Value} {C : List (Int × Int)} (h : Own w base e 2 v (C.map iiC)) {i : Nat} (hi : i < C.length) : ∃ g cap, v = .slice (some ⟨g, 0, none⟩) C.length cap := by
  rcases h.own.2 with ⟨_, h0⟩ | ⟨g, cap, cur, h0, _⟩
  · rw [List.length_map] at h0; omega
  · rw [List.length_map] at h0; exact ⟨g, cap, h0⟩
end Few

set_option maxRecDepth 100000 in
set_option maxHeartbeats 4000000 in
theorem fewAdd_any {w : World} {base : Nat} {v : Value} {C : List (Int × Int)} {key n : Int} (hO : Own w base 37 2 v (C.map iiC)) (ho : C.Pairwise (fun a b => a.1 < b.1)) (hl : C.length ≤ 10000) (hC : ∀ d ∈ C, 0 ≤ d.2 ∧ d.2 ≤ 1000000000000000) (h0 : 0 ≤ n) (h1 : n ≤ 1000000000000) (hb : base ≤ w.heap.size) :
    Calls Tryz.prog 18 #[v, .agg #[.int .i64 key, .int .i64 n]] w fun e w' => ∃ v', e = .returned v' ∧ Own w' base 37 2 v' ((addC C (key, n)).map iiC) ∧ Below base w w' := by
  obtain ⟨a, cap, hv, hT⟩ := hO.tab
  rw [List.length_map] at hv hT
  have hbx : Below w.heap.size w (w.alloc (.cells #[.int .i64 key, .int .i64 n] 37)) := (Below.refl _ _).alloc (Nat.le_refl _) _
  have hX := (MapKept.heap_alloc w (.cells #[.int .i64 key, .int .i64 n] 37)).1
  have hO0 := hO.below hbx
  have hvb : ∀ g, v.ownBlock = some g → g < w.heap.size := fun g hg => (hO.own.lt g hg).2
  obtain ⟨w0, hw0⟩ : ∃ w0, w.alloc (.cells #[.int .i64 key, .int .i64 n] 37) = w0 := ⟨_, rfl⟩
  rw [hw0] at hbx hX hO0
  obtain ⟨D, hD⟩ : ∃ D, addC C (key, n) = D := ⟨_, rfl⟩
  rw [hD]
  have HD := Lib.hid hD
  clear hD
  have HF := Lib.hid (find_any a C.length cap C key w0 (hT.below hbx) ho (by omega))
  have HB0 := Lib.hid hbx
  have HX := Lib.hid hX
  have HO := Lib.hid hO0
  have HVB := Lib.hid hvb
  have HC := Lib.hid hC
  have HV0 := Lib.hid hw0
  have HL := Lib.hid hl
  have HB := Lib.hid hb
  have HV := Lib.hid hv
  clear hO hT hbx hX hO0 hvb hC hw0 ho hl hb
  subst hv
  go_enter Tryz.func18, Tryz.ntmps18
  go_upto_region 1 with fail
  rw [HV0.out]
  obtain ⟨X, hX⟩ : ∃ X, w.heap.size = X := ⟨_, rfl⟩
  have HXX := Lib.hid hX
  rw [hX] at HX ⊢
  clear hX HV0
  obtain ⟨e0, e1⟩ := pair_cells HX.out
  go_wp2_with fail
  clear e0 e1
  refine HF.out.mono ?_
  rintro e w1 ⟨i, f, rfl, hA, hbf⟩
  have HB1 := Lib.hid (below_on HB0.out hbf)
  have HX1 := Lib.hid (kept_blk hbf HX.out)
  have HO1 := Lib.hid (HO.out.below hbf)
  have HA := Lib.hid hA
  have HXl : Hid (X < w1.heap.size) := Lib.hid (Array.getElem?_eq_some_iff.1 HX1.out).1
  clear hA hbf HO HX HF
  obtain ⟨e0, e1⟩ := pair_cells HX1.out
  cases f
  · -- a new one
    have hnew := addC_new (c := (key, n)) HA.out.le HA.out.lo (HA.out.no rfl)
    rw [HD.out] at hnew
    have HN := Lib.hid hnew
    have hal : Below w1.heap.size w1 (w1.alloc (.cells #[.int .i64 key, .int .i64 n] 37)) := (Below.refl _ _).alloc (Nat.le_refl _) _
    have HI := Lib.hid (insert_counter (c := (key, n)) (X := w1.heap.size) (HO1.out.below hal) HA.out.le (by have := HL.out; omega) (MapKept.heap_alloc w1 (.cells #[.int .i64 key, .int .i64 n] 37)).1 (fun h => by have := (HVB.out _ h); have := HB1.out.size; omega) (by have := HB.out; have := HB1.out.size; simp; omega))
    have HAL := Lib.hid hal
    clear hnew hal
    go_wp2_with fail
    refine HI.out.mono ?_
    rintro e w2 ⟨v', rfl, hO2, hb2⟩
    rw [← HN.out] at hO2
    have HO2 := Lib.hid hO2
    have HB2 : Hid (Below base w w2) := Lib.hid (((HB1.out.mono HB.out).trans (HAL.out.mono (Nat.le_trans HB.out HB1.out.size))).trans hb2)
    clear hO2 hb2 e0 e1
    go_wp2
    go_ret
    exact ⟨_, rfl, HO2.out, HB2.out⟩
  · obtain ⟨m, hm⟩ := HA.out.yes rfl
    have hadd := addC_at (n := n) hm HA.out.lo
    rw [HD.out] at hadd
    have hil := (List.getElem?_eq_some_iff.1 hm).1
    obtain ⟨g, cap', hv2⟩ := own_slice HO1.out hil
    simp only [Value.slice.injEq, true_and] at hv2
    obtain ⟨rfl, rfl⟩ := hv2
    have hgX : g ≠ X := fun e => by have := HVB.out g rfl; rw [HXX.out] at this; omega
    obtain ⟨q0, q1, q2, q3⟩ := HO1.out.at_ (i := i) (j := 1) (map_get hm) rfl
    have hS := HO1.out.set_ (i := i) (j := 1) (map_get hm) (by decide) (.int .i64 (m + n))
    rw [set_two, ← hadd] at hS
    have HS := Lib.hid hS
    have HBS : Hid (Below base w (w1.setCell ⟨g, i * 2 + 1, none⟩ (.int .i64 (m + n)))) := Lib.hid ((HB1.out.mono HB.out).setCell (p := ⟨g, i * 2 + 1, none⟩) q2 _)
    have hmb := HC.out _ (List.mem_of_getElem? hm)
    have hmb0 := hmb.1
    have hmb1 := hmb.2
    simp only at hmb0 hmb1
    have hll := HL.out
    clear hm hadd hS hmb
    go_wp2_with fail
    go_region
    go_wp2
    go_ret
    exact ⟨_, rfl, HS.out.drew, HBS.out.drew⟩
end Go.Proofs.YtffgoekdjcempaaGreat
