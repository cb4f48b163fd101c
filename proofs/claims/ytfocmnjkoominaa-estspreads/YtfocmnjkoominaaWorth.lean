/- The contracts of the laws' own worth and sum (culkeep.worth, culkeep.sum) for values of any sign. -/
import Derived.Test.YtfocmnjkoominaaListTo
import Derived.Test.YtfocmnjkoominaaMany
import Derived.Test.YtfocmnjkoominaaCloneInts
import Derived.Test.YtfocmnjkoominaaSubSlice
import Derived.Deep.DeepCutAuto
import Derived.Deep.LoopGhost
namespace Go.Proofs.Ytfocmnjkoominaa
open Go.ChangeShapes Go.WideShapes Go.ChangeAt Go.RowKit
open Est Span

theorem size_int6 (w : World) : (sizeOf 3).run Try.prog w = .ok 1 w := by kernel_rfl
theorem elem_int6 : Try.prog.elem 22 = 3 := by kernel_rfl
theorem tab_nil (w : World) : Tab w none 0 0 1 (([] : List Int).map iC) := (Own.nil w w.heap.size 3 1).tab_of

set_option maxRecDepth 100000 in
set_option maxHeartbeats 2000000 in
theorem worth_any (a b : Option Addr) (len cap len2 cap2 : Nat) (l m : List Int) (N : Nat) (most : Int) (w : World) (h : Tab w a len cap 1 (l.map iC)) (h2 : Tab w b len2 cap2 1 (m.map iC)) (ho : ∀ z ∈ l, wfI z) (ho2 : ∀ z ∈ m, wfI z) (hN : N ≤ 40) (m0 : 0 ≤ most) (m1 : most ≤ 20) :
    Calls Try.prog 20 #[.slice a len cap, .slice b len2 cap2, .int .i64 N, .int .i64 most] w fun e w' => ∃ u v, e = .returned (.tuple #[u, v]) ∧ Many w' w.heap.size 3 [(u, listTo (worthAt l) (min len N)), (v, listTo (levelAt most m) (min len N))] ∧ Below w.heap.size w w' := by
  have hl := h.hlen
  rw [List.length_map] at hl
  have hc := h.hle
  have hm := h.hmax
  have hl2 := h2.hlen
  rw [List.length_map] at hl2
  have hc2 := h2.hle
  have hm2 := h2.hmax
  unfold maxLen at hm hm2
  obtain ⟨n, hn⟩ : ∃ n, min len N = n := ⟨_, rfl⟩
  rw [hn]
  have hn1 : n ≤ len := by omega
  have hn2 : n ≤ 40 := by omega
  have rU := run_upto 22 3 1 Try.underlying22 elem_int6 size_int6 a len cap n (by omega)
  have HT := Lib.hid h
  have HT2 := Lib.hid h2
  have HL := Lib.hid hl
  have HL2 := Lib.hid hl2
  have HO := Lib.hid ho
  have HO2 := Lib.hid ho2
  clear h hl ho h2 hl2 ho2
  go_enter Try.func20, Try.ntmps20
  go_upto_region 2 with fail
  go_cut [20, 21, 22] (fun s t i wx => s = .slice a n cap ∧ t = .int .i64 n ∧ i = .int .i64 0 ∧ wx = w)
  case first =>
    by_cases h9 : len ≤ N
    · obtain rfl : n = len := by omega
      clear hn
      go_wp2_with fail
      go_meet
      case rel => exact ⟨rfl, rfl, rfl, rfl⟩
    · obtain rfl : n = N := by omega
      have h9' : n < len := by omega
      clear hn h9
      go_wp2_with fail
      go_meet
      case rel => exact ⟨rfl, rfl, rfl, rfl⟩
  case rest =>
  obtain ⟨rfl, rfl, rfl, hwc⟩ := hcut
  have hwc := hwc.symm
  subst hwc
  clear rU hn
  go_wp2_with fail
  go_loopg [10, 11, 22] n (fun g va vb i wr => ∃ k : Nat, k + g = n ∧ i = .int .i64 k ∧ Hid (Many wr w.heap.size 3 [(va, listTo (worthAt l) k), (vb, listTo (levelAt most m) k)]) ∧ Hid (Below w.heap.size w wr))
  case atStart => exact ⟨0, by omega, rfl, Lib.hid ⟨by intro p hp; simp at hp; rcases hp with rfl | rfl <;> exact Own.nil _ _ _ _, by simp [Apart, apart_nil, Value.ownBlock]⟩, Lib.hid (Below.refl _ _)⟩
  case round =>
    obtain ⟨k, hk0, rfl, HV, HB⟩ := hrel
    have HJ := Lib.hid hk0
    have hk : k ≤ n := by omega
    clear hk0
    by_cases hlt : k < n
    · obtain ⟨x, hx⟩ : ∃ x, l[k]? = some x := ⟨_, List.getElem?_eq_getElem (by rw [HL.out]; omega)⟩
      obtain ⟨b1, o1, ha, hbs, c0⟩ := HT.out.one HB.out (map_get hx)
      have hwx := wf_i64 (HO.out x (List.mem_of_getElem? hx))
      have HW := Lib.hid (fun w => within_int x 2001 w hwx (by omega) (by omega))
      have hy0 := withI_bd x 2001 (by omega)
      have HN : Hid (listTo (worthAt l) (k + 1) = listTo (worthAt l) k ++ [withI x 2001 - 1000]) := Lib.hid (by rw [listTo_succ, worthAt_some hx])
      have HV1 : Hid ((((listTo (worthAt l) k).map iC).length) ≤ 40) := Lib.hid (by rw [List.length_map, listTo_len]; omega)
      have HV2 : Hid ((((listTo (levelAt most m) k).map iC).length) ≤ 40) := Lib.hid (by rw [List.length_map, listTo_len]; omega)
      subst ha
      clear hx hwx
      generalize withI x 2001 = y at *
      obtain ⟨y0, y1⟩ := hy0
      by_cases hlt2 : k < len2
      · obtain ⟨z, hz⟩ : ∃ z, m[k]? = some z := ⟨_, List.getElem?_eq_getElem (by rw [HL2.out]; omega)⟩
        have hwz := wf_i64 (HO2.out z (List.mem_of_getElem? hz))
        have HW2 := Lib.hid (fun w => within_int z (most + 1) w hwz (by omega) (by omega))
        have HN2 : Hid (listTo (levelAt most m) (k + 1) = listTo (levelAt most m) k ++ [withI z (most + 1)]) := Lib.hid (by rw [listTo_succ, levelAt_some hz])
        have HZ := Lib.hid hz
        clear hz hwz
        generalize withI z (most + 1) = t at *
        obtain ⟨b2, o2, ha2, hbs2, c2'⟩ := HT2.out.one HB.out (map_get HZ.out)
        subst ha2
        clear c2'
        go_wp2_with fail
        refine (HW.out _).mono ?_
        rintro e w2 ⟨rfl, rfl⟩
        go_wp2_with (at_builtin; refine wpList_append_rows_at _ rfl _ _ 22 rfl w.heap.size 3 _ 1 8 Try.underlying22 info_int rfl (by decide) _ ((listTo (worthAt l) k).map iC) rfl ((HV.out.at (v := u10) (List.mem_cons_self ..)).alloc _) ⟨wr.heap.size, 0, none⟩ 1 1 [iC (y - 1000)] rfl rfl (by simp [iC]) (one_row wr (iC (y - 1000)) 3 _ rfl) (by simp [iC, Value.oneCell']) (by have := HV1.out; omega) (by decide) (Nat.le_trans HB.out.size (by simp)) ?_; intro v6 w6 hO6 hg6 hat6; have HM6 := Lib.hid (Many.grow (A := []) (L' := listTo (worthAt l) (k + 1)) (HV.out.alloc (.cells (iC (y - 1000)).toArray 3)) (by rw [HN.out, List.map_append]; exact hO6) hg6 hat6); have HB6 := Lib.hid (((HV.out.at (v := u10) (List.mem_cons_self ..)).alloc (.cells (iC (y - 1000)).toArray 3)).under (HB.out.alloc HB.out.size _) (Nat.le_refl _) (Nat.le_trans HB.out.size (by simp)) hg6); have HO7 := Lib.hid (HM6.out.at (v := u11) (L := listTo (levelAt most m) k) (by simp)); clear hO6 hg6 hat6; obtain ⟨b3, o3, ha3, hbs3, c2⟩ := HT2.out.one HB6.out (map_get HZ.out); simp only [Option.some.injEq, Addr.mk.injEq, and_true] at ha3; obtain ⟨rfl, rfl⟩ := ha3)
        refine (HW2.out _).mono ?_
        rintro e w7 ⟨rfl, rfl⟩
        go_wp2_with (at_builtin; refine wpList_append_rows_at _ rfl _ _ 22 rfl w.heap.size 3 _ 1 8 Try.underlying22 info_int rfl (by decide) _ ((listTo (levelAt most m) k).map iC) rfl (HO7.out.alloc _) ⟨w6.heap.size, 0, none⟩ 1 1 [iC t] rfl rfl (by simp [iC]) (one_row w6 (iC t) 3 _ rfl) (by simp [iC, Value.oneCell']) (by have := HV2.out; omega) (by decide) (Nat.le_trans HB6.out.size (by simp)) ?_; intro v8 w8 hO8 hg8 hat8)
        go_roundg (n - (k + 1))
        case measure => have := HJ.out; omega
        case rel =>
          refine ⟨k + 1, by omega, by go_num, ?_, ?_⟩
          · have hO8' : Own w8 w.heap.size 3 1 v8 ((listTo (levelAt most m) (k + 1)).map iC) := by rw [HN2.out, List.map_append]; exact hO8
            exact Lib.hid (Many.grow (A := [(v6, listTo (worthAt l) (k + 1))]) (B := []) (HM6.out.alloc (.cells (iC t).toArray 3)) hO8' hg8 hat8)
          · exact Lib.hid ((HO7.out.alloc (.cells (iC t).toArray 3)).under (HB6.out.alloc HB6.out.size _) (Nat.le_refl _) (Nat.le_trans HB6.out.size (by simp)) hg8)
      · have HN2 : Hid (listTo (levelAt most m) (k + 1) = listTo (levelAt most m) k ++ [0]) := Lib.hid (by rw [listTo_succ, levelAt_none (by rw [HL2.out]; omega)])
        have hlt2' : len2 ≤ k := by omega
        clear hlt2
        go_wp2_with fail
        refine (HW.out _).mono ?_
        rintro e w2 ⟨rfl, rfl⟩
        go_wp2_with (first | (at_builtin; refine wpList_append_rows_at _ rfl _ _ 22 rfl w.heap.size 3 _ 1 8 Try.underlying22 info_int rfl (by decide) _ ((listTo (worthAt l) k).map iC) rfl ((HV.out.at (v := u10) (List.mem_cons_self ..)).alloc _) ⟨wr.heap.size, 0, none⟩ 1 1 [iC (y - 1000)] rfl rfl (by simp [iC]) (one_row wr (iC (y - 1000)) 3 _ rfl) (by simp [iC, Value.oneCell']) (by have := HV1.out; omega) (by decide) (Nat.le_trans HB.out.size (by simp)) ?_; intro v6 w6 hO6 hg6 hat6; have HM6 := Lib.hid (Many.grow (A := []) (L' := listTo (worthAt l) (k + 1)) (HV.out.alloc (.cells (iC (y - 1000)).toArray 3)) (by rw [HN.out, List.map_append]; exact hO6) hg6 hat6); have HB6 := Lib.hid (((HV.out.at (v := u10) (List.mem_cons_self ..)).alloc (.cells (iC (y - 1000)).toArray 3)).under (HB.out.alloc HB.out.size _) (Nat.le_refl _) (Nat.le_trans HB.out.size (by simp)) hg6); have HO7 := Lib.hid (HM6.out.at (v := u11) (L := listTo (levelAt most m) k) (by simp)); clear hO6 hg6 hat6) | (at_builtin; refine wpList_append_rows_at _ rfl _ _ 22 rfl w.heap.size 3 _ 1 8 Try.underlying22 info_int rfl (by decide) _ ((listTo (levelAt most m) k).map iC) rfl (HO7.out.alloc _) ⟨w6.heap.size, 0, none⟩ 1 1 [iC 0] rfl rfl (by simp [iC]) (one_row w6 (iC 0) 3 _ rfl) (by simp [iC, Value.oneCell']) (by have := HV2.out; omega) (by decide) (Nat.le_trans HB6.out.size (by simp)) ?_; intro v8 w8 hO8 hg8 hat8))
        go_roundg (n - (k + 1))
        case measure => have := HJ.out; omega
        case rel =>
          refine ⟨k + 1, by omega, by go_num, ?_, ?_⟩
          · have hO8' : Own w8 w.heap.size 3 1 v8 ((listTo (levelAt most m) (k + 1)).map iC) := by rw [HN2.out, List.map_append]; exact hO8
            exact Lib.hid (Many.grow (A := [(v6, listTo (worthAt l) (k + 1))]) (B := []) (HM6.out.alloc (.cells (iC 0).toArray 3)) hO8' hg8 hat8)
          · exact Lib.hid ((HO7.out.alloc (.cells (iC 0).toArray 3)).under (HB6.out.alloc HB6.out.size _) (Nat.le_refl _) (Nat.le_trans HB6.out.size (by simp)) hg8)
    · obtain rfl : k = n := by omega
      go_wp2
      go_ret2
      exact ⟨_, _, rfl, HV.out, HB.out⟩

set_option maxRecDepth 100000 in
set_option maxHeartbeats 1000000 in
theorem keepSum_to (a : Option Addr) (len cap : Nat) (f : Nat → Int) (w : World) (h : Tab w a len cap 1 ((listTo f len).map iC)) (h40 : len ≤ 40) (hz : ∀ i, i < len → -1000000000000 ≤ f i ∧ f i ≤ 1000000000000) :
    Calls Try.prog 21 #[.slice a len cap] w fun e w' => e = .returned (.int .i64 (sumTo f len)) ∧ w = w' := by
  have HT := Lib.hid h
  have HZ := Lib.hid hz
  clear h hz
  obtain ⟨A, hA⟩ : ∃ A, sumTo f len = A := ⟨_, rfl⟩
  rw [hA]
  have HA := Lib.hid hA
  clear hA
  go_enter Try.func21, Try.ntmps21
  go_wp2_with fail
  go_loopg [3, 8] len (fun g al i wr => ∃ (k : Nat) (S : Int), k + g = len ∧ i = .int .i64 k ∧ al = .int .i64 S ∧ -((k : Int) * 1000000000000) ≤ S ∧ S ≤ (k : Int) * 1000000000000 ∧ Hid (S = sumTo f k) ∧ wr = w)
  case atStart => exact ⟨0, 0, by omega, rfl, rfl, by omega, by omega, Lib.hid rfl, rfl⟩
  case round =>
    obtain ⟨k, S, hk0, rfl, rfl, hS0, hS1, HS, rfl⟩ := hrel
    have HJ := Lib.hid hk0
    have hk : k ≤ len := by omega
    clear hk0
    by_cases hlt : k < len
    · obtain ⟨b1, o1, ha, hbs, c0⟩ := HT.out.one (Below.refl _ _) (map_get (listTo_get (f := f) hlt))
      have bx := HZ.out k hlt
      have bx1 := bx.1
      have bx2 := bx.2
      have HN : Hid (sumTo f (k + 1) = sumTo f k + f k) := Lib.hid rfl
      subst ha
      clear bx
      generalize f k = x at *
      go_wp2_with fail
      go_roundg (len - (k + 1))
      case measure => have := HJ.out; omega
      case rel => exact ⟨k + 1, S + x, by omega, by go_num, by go_num, by omega, by omega, Lib.hid (by rw [HN.out, HS.out]), rfl⟩
    · obtain rfl : k = len := by omega
      obtain rfl : S = A := by rw [HS.out]; exact HA.out
      go_wp2
      go_ret
      exact ⟨rfl, rfl⟩
end Go.Proofs.Ytfocmnjkoominaa
