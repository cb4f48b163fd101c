/- The contract of the laws' own came (culkeep.came): counters of keys, made of any numbers. -/
import Derived.Test.YtffgoekdjcempaaWithin
import Derived.Test.YtffgoekdjcempaaInfoCounters
import Derived.Test.YtffgoekdjcempaaStepRows
import Derived.Test.YtffgoekdjcempaaOwnTwo
import Derived.Test.YtffgoekdjcempaaSubSlice
import Derived.Deep.DeepCutAuto
import Derived.Deep.LoopGhost
import Derived.Deep.RegionHeldLaw
import Derived.Deep.RegionHeld3
namespace Go.Proofs.Ytffgoekdjcempaa
open Go.ChangeShapes Go.WideShapes Go.ChangeAt Go.RowKit

namespace Came
/-- the counter that a list of numbers makes, if it makes one -/
def one (most : Int) (c : List Int) : Option (Int × Int) := match c[0]?, c[1]? with
  | some k, some n => some (k, 1 + withI n most)
  | _, _ => none
def of (most : Int) (L : List (List Int)) : List (Int × Int) := L.filterMap (one most)
def sumN (C : List (Int × Int)) : Int := (C.map (fun p => p.2)).sum
theorem of_snoc {most : Int} {L : List (List Int)} {k : Nat} {c : List Int} (h : L[k]? = some c) : of most (L.take (k + 1)) = of most (L.take k) ++ (one most c).toList := by
  unfold of
  rw [List.take_add_one, h, Option.toList_some, List.filterMap_append]
  cases h : one most c <;> simp [h]
theorem of_len (most : Int) (L : List (List Int)) : (of most L).length ≤ L.length := List.length_filterMap_le _ _
theorem sumN_snoc (C : List (Int × Int)) (p : Int × Int) : sumN (C ++ [p]) = sumN C + p.2 := by simp [sumN]
theorem sumN_append (C D : List (Int × Int)) : sumN (C ++ D) = sumN C + sumN D := by simp [sumN]
theorem one_short {most : Int} {c : List Int} (h : c.length ≤ 1) : one most c = none := by
  unfold one
  rw [List.getElem?_eq_none (i := 1) (by omega)]
  cases c[0]? <;> rfl
theorem one_long {most : Int} {c : List Int} {k n : Int} (h0 : c[0]? = some k) (h1 : c[1]? = some n) : one most c = some (k, 1 + withI n most) := by
  unfold one
  rw [h0, h1]
theorem of_bd {most : Int} (hm : 1 ≤ most) {L : List (List Int)} : ∀ p ∈ of most L, 1 ≤ p.2 ∧ p.2 ≤ most := by
  intro p hp
  obtain ⟨c, _, hc⟩ := List.mem_filterMap.1 hp
  unfold one at hc
  split at hc
  · rename_i k n _ _
    simp only [Option.some.injEq] at hc
    subst hc
    have := withI_bd n most hm
    simp only
    omega
  · cases hc
theorem sumN_bd {most : Int} (h0 : 0 ≤ most) : ∀ {C : List (Int × Int)}, (∀ p ∈ C, 1 ≤ p.2 ∧ p.2 ≤ most) → 0 ≤ sumN C ∧ sumN C ≤ most * C.length
  | [], _ => by simp [sumN]
  | p :: C, h => by
    have h1 := h p (by simp)
    have h2 := sumN_bd h0 (C := C) (fun q hq => h q (by simp [hq]))
    have e : sumN (p :: C) = p.2 + sumN C := by simp [sumN]
    rw [e, List.length_cons]
    have : most * ((C.length + 1 : Nat) : Int) = most * (C.length : Int) + most := by rw [Int.natCast_add, Int.mul_add]; simp
    omega
theorem size_intsC (w : World) : (sizeOf 22).run Try.prog w = .ok 1 w := by kernel_rfl
theorem elem_intsC : Try.prog.elem 36 = 22 := by kernel_rfl
theorem box_two {W : World} {B : Nat} {a b : Value} {t : TypeId} (h : W.heap[B]? = some (.cells #[a, b] t (0, 0))) : (W.cell? ⟨B, 0, none⟩ = some a ∧ W.cell? ⟨B, 1, none⟩ = some b) ∧ W.frozen? ⟨B, 0, none⟩ = false ∧ W.frozen? ⟨B, 1, none⟩ = false :=
  ⟨⟨cell_blk h rfl, cell_blk h rfl⟩, frozen_blk h, frozen_blk h⟩
theorem box_set {w : World} {b : Nat} {x y x' y' : Value} {t : TypeId} (h : w.heap[b]? = some (.cells #[x, y] t (0, 0))) :
    ((w.setCell ⟨b, 0, none⟩ x').setCell ⟨b, 1, none⟩ y').heap[b]? = some (.cells #[x', y'] t (0, 0)) := by
  have h0 := heap_setCell_same w b 0 _ _ x' h
  have h1 := heap_setCell_same _ b 1 _ _ y' h0
  rw [h1]
  rfl
theorem box_drew (w : World) (x y : Value) (t : TypeId) : (w.alloc (.cells #[x, y] t)).drew.heap[w.heap.size]? = some (.cells #[x, y] t (0, 0)) := (MapKept.heap_alloc w (.cells #[x, y] t)).1
end Came
open Came

set_option maxRecDepth 100000 in
set_option maxHeartbeats 4000000 in
theorem came_any (a : Option Addr) (len cap : Nat) (L : List (Sl Int)) (most : Int) (w : World) (h : Tab w a len cap 1 (L.map slC)) (ho : ∀ z ∈ L, Tab w z.a z.len z.cap 1 (z.l.map iC) ∧ ∀ y ∈ z.l, wfI y) (m0 : 1 ≤ most) (m1 : most ≤ 1000) :
    Calls Try.prog 25 #[.slice a len cap, .int .i64 most] w fun e w' => ∃ v, e = .returned (.tuple #[v, .int .i64 (sumN (of most ((L.take 60).map (fun s => s.l))))]) ∧ Own w' w.heap.size 43 2 v ((of most ((L.take 60).map (fun s => s.l))).map iiC) ∧ Below w.heap.size w w' := by
  have hl := h.hlen
  rw [List.length_map] at hl
  have hc := h.hle
  have hm := h.hmax
  unfold maxLen at hm
  obtain ⟨n, hn⟩ : ∃ n, min len 60 = n := ⟨_, rfl⟩
  have hn1 : n ≤ len := by omega
  have hn2 : n ≤ 60 := by omega
  have rU := run_upto 36 22 1 Try.underlying36 elem_intsC size_intsC a len cap n (by omega)
  have HT := Lib.hid h
  have HL := Lib.hid hl
  have HO := Lib.hid ho
  have HTK : Hid ((L.take 60).map (fun s => s.l) = (L.map (fun s => s.l)).take n) := Lib.hid (by
    rw [← List.map_take]
    by_cases c : len ≤ 60
    · rw [show n = len by omega, List.take_of_length_le (by omega), List.take_of_length_le (by omega)]
    · rw [show n = 60 by omega])
  rw [HTK.out]
  obtain ⟨M, hM⟩ : ∃ M, L.map (fun s => s.l) = M := ⟨_, rfl⟩
  have HMM := Lib.hid hM
  have HLM : Hid (M.length = len) := Lib.hid (by rw [← hM, List.length_map, hl])
  rw [hM]
  clear h hl ho HTK hM
  go_enter Try.func25, Try.ntmps25
  go_upto_region 3 with fail
  go_cut [15, 16, 17] (fun s t i wx => s = .slice a n cap ∧ t = .int .i64 n ∧ i = .int .i64 0 ∧ wx = w)
  case first =>
    by_cases h9 : len ≤ 60
    · obtain rfl : n = len := by omega
      clear hn
      go_wp2_with fail
      all_goals
        try omega
      go_meet
      case rel => exact ⟨rfl, rfl, rfl, rfl⟩
    · obtain rfl : n = 60 := by omega
      have h9' : 60 < len := by omega
      clear hn h9
      go_wp2_with fail
      all_goals
        try omega
      go_meet
      case rel => exact ⟨rfl, rfl, rfl, rfl⟩
  case rest =>
  obtain ⟨rfl, rfl, rfl, hwc⟩ := hcut
  have hwc := hwc.symm
  subst hwc
  clear rU hn
  go_wp2_with fail
  go_loopg [6, 7, 17] n (fun g v0 s i wr => ∃ (k : Nat) (v : Value), k + g = n ∧ i = .int .i64 k ∧ v = v0 ∧ s = .int .i64 (sumN (of most (M.take k))) ∧ Hid (Own wr w.heap.size 43 2 v ((of most (M.take k)).map iiC)) ∧ Hid (Below w.heap.size w wr))
  case atStart => exact ⟨0, _, by omega, rfl, rfl, rfl, Lib.hid (Own.nil _ _ _ _), Lib.hid (Below.refl _ _)⟩
  case round =>
    obtain ⟨k, v, hk0, rfl, rfl, rfl, HV, HB⟩ := hrel
    have HJ := Lib.hid hk0
    have hk : k ≤ n := by omega
    clear hk0
    have hCb : ∀ p ∈ of most (M.take k), 1 ≤ p.2 ∧ p.2 ≤ most := of_bd m0
    have hCl : (of most (M.take k)).length ≤ 60 := Nat.le_trans (of_len _ _) (by rw [List.length_take]; omega)
    have hSb := sumN_bd (by omega : 0 ≤ most) hCb
    have hSb2 : sumN (of most (M.take k)) ≤ 60000 := by
      have : most * ((of most (M.take k)).length : Int) ≤ 1000 * 60 := Int.mul_le_mul m1 (by omega) (by omega) (by omega)
      omega
    have hSb1 := hSb.1
    by_cases hlt : k < n
    · obtain ⟨c, hx⟩ : ∃ x, L[k]? = some x := ⟨_, List.getElem?_eq_getElem (by rw [HL.out]; omega)⟩
      obtain ⟨b1, o1, ha, hbs, c0⟩ := HT.out.one HB.out (map_get hx)
      have hMk : M[k]? = some c.l := by rw [← HMM.out, List.getElem?_map, hx]; rfl
      have HN := Lib.hid (of_snoc (most := most) hMk)
      have ho := HO.out c (List.mem_of_getElem? hx)
      obtain ⟨ca, cl, cc, cs⟩ := c
      simp only at ho c0 HN
      have hcl := ho.1.hlen
      rw [List.length_map] at hcl
      have HCL := Lib.hid hcl
      have HOO := Lib.hid ho
      have hcm := ho.1.hmax
      have hcc := ho.1.hle
      unfold maxLen at hcm
      subst ha
      generalize of most (M.take k) = C at *
      generalize hsum : sumN C = sm at *
      have HSUM := Lib.hid hsum
      clear hx ho hcl hMk hCb hSb hsum
      by_cases e1 : cl ≤ 1
      · have hS : one most cs = none := one_short (by rw [HCL.out]; exact e1)
        rw [hS, Option.toList_none, List.append_nil] at HN
        have e1' : ¬ (1 < (cl : Int)) := by omega
        have e1'' : (cl : Int) ≤ 1 := by omega
        clear hS e1
        go_wp2_with fail
        go_roundg (n - (k + 1))
        case measure => have := HJ.out; omega
        case rel => exact ⟨k + 1, _, by omega, by go_num, rfl, by rw [HN.out, HSUM.out], by rw [HN.out]; exact HV, HB⟩
      · obtain ⟨x, hx⟩ : ∃ x, cs[0]? = some x := ⟨_, List.getElem?_eq_getElem (by rw [HCL.out]; omega)⟩
        obtain ⟨z, hz⟩ : ∃ x, cs[1]? = some x := ⟨_, List.getElem?_eq_getElem (by rw [HCL.out]; omega)⟩
        obtain ⟨b2, o2, ha2, hbs2, d0⟩ := HOO.out.1.one HB.out (map_get hx)
        obtain ⟨b3, o3, ha3, hbs3, d1⟩ := HOO.out.1.one HB.out (map_get hz)
        rw [ha2] at ha3
        simp only [Option.some.injEq, Addr.mk.injEq, and_true] at ha3
        obtain ⟨rfl, rfl⟩ := ha3
        rw [Nat.add_zero] at d0
        have hS := one_long (most := most) hx hz
        rw [hS, Option.toList_some] at HN
        have wz := wf_i64 (HOO.out.2 z (List.mem_of_getElem? hz))
        have bz := withI_bd z most m0
        have HW2 := Lib.hid (fun W => within_int z most W wz (by omega) (by omega))
        have e1' : 1 < cl := by omega
        have hbz := HB.out.size
        subst ha2
        generalize withI z most = u at *
        have hu1 : 0 ≤ u := bz.1
        have hu2 : u < 1000 := by omega
        have hwr : IntKind.i64.wrap (1 + u) = 1 + u := by rw [IntKind.wrap_i64]; omega
        have HWR := Lib.hid hwr
        have i0 : (0 : Int) < (cl : Int) := by omega
        have i0n : 0 < cl := by omega
        have i1 : (1 : Int) < (cl : Int) := by omega
        obtain ⟨wo, hwo⟩ : ∃ wo, wo = wr := ⟨_, rfl⟩
        subst hwo
        have D1 := Lib.hid (And.intro d0 d1)
        clear hS hx e1 hz bz wz hwr
        go_upto_region 7 with fail
        go_cut [10] (fun p wx => ∃ Y, p = .pointer (some ⟨Y, 0, none⟩) ∧ Hid (wx.heap[Y]? = some (.cells #[.int .i64 x, .int .i64 (1 + u)] 43 (0, 0))) ∧ Hid (Below wo.heap.size wo wx) ∧ wo.heap.size ≤ Y)
        case first =>
          have hA : Below wo.heap.size wo (wo.alloc (.cells #[.int .i64 0, .int .i64 0] 43)) := (Below.refl _ _).alloc (Nat.le_refl _) _
          have hb2 : b2 < wo.heap.size := by omega
          have k0 : (wo.alloc (.cells #[.int .i64 0, .int .i64 0] 43)).cell? ⟨b2, o2, none⟩ = some (.int .i64 x) := (hA.cell (p := ⟨b2, o2, none⟩) hb2).trans d0
          have k1 : (wo.alloc (.cells #[.int .i64 0, .int .i64 0] 43)).cell? ⟨b2, o2 + 1, none⟩ = some (.int .i64 z) := (hA.cell (p := ⟨b2, o2 + 1, none⟩) hb2).trans d1
          have hX1 := (MapKept.heap_alloc wo (.cells #[.int .i64 0, .int .i64 0] 43)).1
          obtain ⟨⟨p0, p1⟩, p2, p3⟩ := box_two hX1
          have HX1 := Lib.hid hX1
          have HA := Lib.hid hA
          have hne : b2 ≠ wo.heap.size := by omega
          clear hX1 hA HV HB HT HO HOO HN HMM HL HLM HCL HJ hCl hSb1 hSb2 HSUM D1
          go_wp2_with fail
          go_region_held3 (fun W => W.cell? ⟨b2, o2, none⟩ = some (.int .i64 x) ∧ W.cell? ⟨b2, o2 + 1, none⟩ = some (.int .i64 z)) (first | with_reducible exact ⟨d0, d1⟩ | with_reducible exact ⟨k0, k1⟩ | go_keep) (first
            | (go_at_call 24; refine Calls.mono (HW2.out _) ?_; rintro e w5 ⟨rfl, rfl⟩))
          all_goals
            try simp only [HWR.out]
            go_wp2_with fail
            go_meet
            case rel =>
              first
              | exact ⟨wo.heap.size, rfl, Lib.hid (MapKept.heap_alloc wo _).1, Lib.hid ((Below.refl _ _).alloc (Nat.le_refl _) _), Nat.le_refl _⟩
              | exact ⟨wo.heap.size, rfl, Lib.hid (box_drew wo _ _ _), Lib.hid ((Below.refl _ _).alloc (Nat.le_refl _) _).drew, Nat.le_refl _⟩
              | exact ⟨wo.heap.size, rfl, Lib.hid (box_set HX1.out), Lib.hid ((HA.out.setCell (p := ⟨wo.heap.size, 0, none⟩) (Nat.le_refl _) _).setCell (p := ⟨wo.heap.size, 1, none⟩) (Nat.le_refl _) _), Nat.le_refl _⟩
        case rest =>
        obtain ⟨Y, rfl, KY, HBY, hY⟩ := hcut
        obtain ⟨wq, hwq⟩ : ∃ wq, wq = wc := ⟨_, rfl⟩
        subst hwq
        have HV2 := Lib.hid (HV.out.below HBY.out)
        have HB2 := Lib.hid (below_on HB.out HBY.out)
        have hYv : ∀ g, v.ownBlock = some g → g < Y := fun g hg => by
          have := (HV.out.own.lt g hg).2
          omega
        have HYV := Lib.hid hYv
        have hYs : Y < wq.heap.size := (Array.getElem?_eq_some_iff.1 KY.out).1
        obtain ⟨⟨y0, y1⟩, y2, y3⟩ := box_two KY.out
        have HYC : Hid (∀ W : World, W.heap[Y]? = wq.heap[Y]? → W.cell? ⟨Y, 0, none⟩ = some (.int .i64 x) ∧ W.cell? ⟨Y, 1, none⟩ = some (.int .i64 (1 + u))) := Lib.hid (fun W hW => (box_two (hW.trans KY.out)).1)
        have a0 : (wq.alloc (.cells #[.int .i64 x, .int .i64 (1 + u)] 43)).heap[Y]? = wq.heap[Y]? := Below.heap_alloc _ _ _ hYs
        have HAY := Lib.hid a0
        have HSZ := Lib.hid HB2.out.size
        have HCL2 : Hid ((C.map iiC).length ≤ 60) := Lib.hid (by rw [List.length_map]; exact hCl)
        clear HV HB HBY hYv a0 d0 d1 c0 hbz D1
        go_wp2_with fail
        go_region_held_law (fun W => W.cell? ⟨Y, 0, none⟩ = some (.int .i64 x) ∧ W.cell? ⟨Y, 1, none⟩ = some (.int .i64 (1 + u))) (first | with_reducible exact ⟨y0, y1⟩ | with_reducible exact HYC.out _ HAY.out | with_reducible exact HYC.out _ hy6.out | go_keep) (first
          | (refine step_append_rows _ rfl _ _ 37 rfl w.heap.size 43 _ 2 16 Try.underlying37 info_counter rfl (by decide) v (C.map iiC) (by simp [Act.eval, Act.put]) (by first | exact (HV2.out.alloc _).drew | exact HV2.out.alloc _) ⟨wq.heap.size, 0, none⟩ 1 1 [iiC (x, 1 + u)] (by decide) rfl (by simp [Act.eval, Act.put]) (by simp [iiC]) (one_row _ (iiC (x, 1 + u)) 43 _ (by simp)) (by simp [iiC, Value.oneCell']) (by have := HCL2.out; omega) (by decide) (by have := HSZ.out; simp; omega) ?_; intro g6 c6 w6 hO6 hg6; have hy6 := Lib.hid ((hg6.block Y (by simp; omega) (fun e => by have := HYV.out Y e.symm; omega)).trans HAY.out)))
        all_goals
          have hu6 := ((HV2.out.alloc (.cells #[.int .i64 x, .int .i64 (1 + u)] 43)).drew).under ((HB2.out.alloc HSZ.out _).drew) (Nat.le_refl _) (by have := HSZ.out; simp; omega) hg6
          rw [List.length_map] at hO6
          have HO6 := Lib.hid hO6
          have HU6 := Lib.hid hu6
          clear hO6 hu6 hg6
          go_wp2_with fail
          go_roundg (n - (k + 1))
          case measure => have := HJ.out; omega
          case rel =>
            refine ⟨k + 1, _, by omega, by go_num, rfl, by rw [HN.out, sumN_snoc, HSUM.out], ?_, HU6⟩
            rw [HN.out, List.map_append]
            exact HO6
    · obtain rfl : k = n := by omega
      have HO := HV
      have HBB := HB
      clear hCb hSb
      go_wp2
      go_ret2
      exact ⟨_, rfl, HO.out, HBB.out⟩
end Go.Proofs.Ytffgoekdjcempaa
