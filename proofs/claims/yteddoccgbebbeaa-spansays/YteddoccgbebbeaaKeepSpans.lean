/- The contract of the laws' own spans (culkeep.spans): a trace made of any numbers. -/
import Derived.Test.YteddoccgbebbeaaSpanMath
import Derived.Test.YteddoccgbebbeaaWithin
import Derived.Test.YteddoccgbebbeaaInfoSpans
import Derived.Test.YteddoccgbebbeaaOwnTwo
import Derived.Test.YteddoccgbebbeaaOwnMore
import Derived.Test.YteddoccgbebbeaaSubSlice
import Derived.Deep.DeepCutAuto
import Derived.Deep.LoopGhost
namespace Go.Proofs.Yteddoccgbebbeaa
open Go.ChangeShapes Go.WideShapes Go.ChangeAt Go.RowKit
open Span

/-- the span that a list of numbers makes at place i -/
def spanOf (most : Int) (i : Nat) (c : List Int) : Int × Int :=
  (match c[0]? with | some x => withI x ((i : Int) + 1) - 1 | none => -1, match c[1]? with | some y => withI y (most + 1) | none => 0)
def spansOf (most : Int) (L : List (Sl Int)) : List (Int × Int) := (List.range L.length).map (fun i => spanOf most i (match L[i]? with | some c => c.l | none => []))
theorem spansOf_len (most : Int) (L : List (Sl Int)) : (spansOf most L).length = L.length := by simp [spansOf]
theorem spansOf_get {most : Int} {L : List (Sl Int)} {i : Nat} {c : Sl Int} (h : L[i]? = some c) : (spansOf most L)[i]? = some (spanOf most i c.l) := by
  obtain ⟨hi, rfl⟩ := List.getElem?_eq_some_iff.1 h
  simp [spansOf, hi]
theorem spansOf_take {most : Int} {L : List (Sl Int)} {k : Nat} {c : Sl Int} (h : L[k]? = some c) : spansOf most (L.take (k + 1)) = spansOf most (L.take k) ++ [spanOf most k c.l] := by
  have hk : k < L.length := (List.getElem?_eq_some_iff.1 h).1
  apply List.ext_getElem?
  intro i
  have hl : (L.take k).length = k := by rw [List.length_take]; omega
  by_cases e : i < k
  · have h1 : (L.take (k + 1))[i]? = some L[i] := by rw [List.getElem?_take, if_pos (by omega)]; exact List.getElem?_eq_getElem _
    have h2 : (L.take k)[i]? = some L[i] := by rw [List.getElem?_take, if_pos e]; exact List.getElem?_eq_getElem _
    rw [spansOf_get h1, List.getElem?_append_left (by rw [spansOf_len, hl]; exact e), spansOf_get h2]
  · by_cases e2 : i = k
    · subst e2
      have h1 : (L.take (i + 1))[i]? = some c := by rw [List.getElem?_take, if_pos (by omega)]; exact h
      rw [spansOf_get h1, List.getElem?_append_right (by rw [spansOf_len, hl]; omega), spansOf_len, hl, Nat.sub_self]
      rfl
    · rw [List.getElem?_eq_none (by rw [spansOf_len, List.length_take]; omega), List.getElem?_eq_none (by rw [List.length_append, spansOf_len, hl]; simp; omega)]
theorem spanOf_bd {most : Int} (hm : 0 ≤ most) (i : Nat) (c : List Int) : -1 ≤ (spanOf most i c).1 ∧ (spanOf most i c).1 < (i : Int) ∧ 0 ≤ (spanOf most i c).2 ∧ (spanOf most i c).2 ≤ most := by
  unfold spanOf
  refine ⟨?_, ?_, ?_, ?_⟩
  · simp only; split
    · have := withI_bd (by assumption) ((i : Int) + 1) (by omega); omega
    · omega
  · simp only; split
    · have := withI_bd (by assumption) ((i : Int) + 1) (by omega); omega
    · omega
  · simp only; split
    · have := withI_bd (by assumption) (most + 1) (by omega); omega
    · omega
  · simp only; split
    · have := withI_bd (by assumption) (most + 1) (by omega); omega
    · omega
theorem spansOf_bd {most : Int} (hm : 0 ≤ most) {L : List (Sl Int)} {i : Nat} {s : Int × Int} (h : (spansOf most L)[i]? = some s) : -1 ≤ s.1 ∧ s.1 < (i : Int) ∧ 0 ≤ s.2 ∧ s.2 ≤ most := by
  have hi : i < L.length := by have := (List.getElem?_eq_some_iff.1 h).1; rwa [spansOf_len] at this
  rw [spansOf_get (List.getElem?_eq_getElem hi), Option.some.injEq] at h
  subst h
  exact spanOf_bd hm i _
theorem spansOf_ok {most : Int} (h0 : 0 ≤ most) (h1 : most ≤ 20) {L : List (Sl Int)} (hL : L.length ≤ 40) : spansE (spansOf most L) = 0 :=
  spansE_ok (by rw [spansOf_len]; exact hL) (fun i s hs => by have := spansOf_bd h0 hs; omega)
theorem size_ints (w : World) : (sizeOf 22).run Try.prog w = .ok 1 w := by kernel_rfl
theorem elem_ints : Try.prog.elem 57 = 22 := by kernel_rfl
/-- the span that is being made, and the spans that were made before -/
structure Made (w wr : World) (B : Nat) (v : Value) (R : List (Int × Int)) (p q : Int) : Prop where
  own : Own wr w.heap.size 44 2 v (R.map iiC)
  box : wr.heap[B]? = some (.cells #[.int .i64 p, .int .i64 q] 44 (0, 0))
  apart : v.ownBlock ≠ some B
  lo : w.heap.size ≤ B
  bel : Below w.heap.size w wr
variable {w wr : World} {B : Nat} {v : Value} {R : List (Int × Int)} {p q : Int}
theorem box2_cells {W : World} {a b : Value} {t : TypeId} (h : W.heap[B]? = some (.cells #[a, b] t (0, 0))) : (W.cell? ⟨B, 0, none⟩ = some a ∧ W.cell? ⟨B, 1, none⟩ = some b) ∧ W.frozen? ⟨B, 0, none⟩ = false ∧ W.frozen? ⟨B, 1, none⟩ = false :=
  ⟨⟨cell_blk h rfl, cell_blk h rfl⟩, frozen_blk h, frozen_blk h⟩
theorem Made.new (hO : Own wr w.heap.size 44 2 v (R.map iiC)) (hb : Below w.heap.size w wr) (p q : Int) : Made w (wr.alloc (.cells #[.int .i64 p, .int .i64 q] 44)) wr.heap.size v R p q :=
  ⟨hO.alloc _, (MapKept.heap_alloc wr _).1, fun e => by have := (hO.own.lt _ e).2; omega, hb.size, hb.alloc hb.size _⟩
theorem Made.set0 (h : Made w wr B v R p q) (x : Int) : Made w (wr.setCell ⟨B, 0, none⟩ (.int .i64 x)) B v R x q :=
  ⟨h.own.keptBy (grown_cell _ _ _) (Or.inr h.apart), heap_setCell_same wr B 0 _ _ _ h.box, h.apart, h.lo, h.bel.setCell (p := ⟨B, 0, none⟩) h.lo _⟩
theorem Made.set1 (h : Made w wr B v R p q) (x : Int) : Made w (wr.setCell ⟨B, 1, none⟩ (.int .i64 x)) B v R p x :=
  ⟨h.own.keptBy (grown_cell _ _ _) (Or.inr h.apart), heap_setCell_same wr B 1 _ _ _ h.box, h.apart, h.lo, h.bel.setCell (p := ⟨B, 1, none⟩) h.lo _⟩

set_option maxRecDepth 100000 in
set_option maxHeartbeats 2000000 in
theorem spans_any (a : Option Addr) (len cap : Nat) (L : List (Sl Int)) (most : Int) (w : World) (h : Tab w a len cap 1 (L.map slC)) (ho : ∀ z ∈ L, Tab w z.a z.len z.cap 1 (z.l.map iC) ∧ ∀ y ∈ z.l, wfI y) (m0 : 0 ≤ most) (m1 : most ≤ 20) :
    Calls Try.prog 35 #[.slice a len cap, .int .i64 most] w (RetRows w 44 2 ((spansOf most (L.take 40)).map iiC)) := by
  have hl := h.hlen
  rw [List.length_map] at hl
  have hc := h.hle
  have hm := h.hmax
  unfold maxLen at hm
  obtain ⟨n, hn⟩ : ∃ n, min len 40 = n := ⟨_, rfl⟩
  have hn1 : n ≤ len := by omega
  have hn2 : n ≤ 40 := by omega
  have rU := run_upto 57 22 1 Try.underlying57 elem_ints size_ints a len cap n (by omega)
  have HT := Lib.hid h
  have HL := Lib.hid hl
  have HO := Lib.hid ho
  have HTK : Hid (L.take 40 = L.take n) := Lib.hid (by
    by_cases c : len ≤ 40
    · rw [show n = len by omega, List.take_of_length_le (by omega), List.take_of_length_le (by omega)]
    · rw [show n = 40 by omega])
  rw [HTK.out]
  clear h hl ho HTK
  go_enter Try.func35, Try.ntmps35
  go_upto_region 2 with fail
  go_cut [13, 14, 15] (fun s t i wx => s = .slice a n cap ∧ t = .int .i64 n ∧ i = .int .i64 0 ∧ wx = w)
  case first =>
    by_cases h9 : len ≤ 40
    · obtain rfl : n = len := by omega
      clear hn
      go_wp2_with fail
      go_meet
      case rel => exact ⟨rfl, rfl, rfl, rfl⟩
    · obtain rfl : n = 40 := by omega
      have h9' : 40 < len := by omega
      clear hn h9
      go_wp2_with fail
      go_meet
      case rel => exact ⟨rfl, rfl, rfl, rfl⟩
  case rest =>
  obtain ⟨rfl, rfl, rfl, hwc⟩ := hcut
  have hwc := hwc.symm
  subst hwc
  clear rU hn
  go_wp2_with fail
  go_loopg [5, 15] n (fun g v i wr => ∃ k : Nat, k + g = n ∧ i = .int .i64 k ∧ Hid (Own wr w.heap.size 44 2 v ((spansOf most (L.take k)).map iiC)) ∧ Hid (Below w.heap.size w wr))
  case atStart => exact ⟨0, by omega, rfl, Lib.hid (Own.nil _ _ _ _), Lib.hid (Below.refl _ _)⟩
  case round =>
    obtain ⟨k, hk0, rfl, HV, HB⟩ := hrel
    have HJ := Lib.hid hk0
    have hk : k ≤ n := by omega
    clear hk0
    by_cases hlt : k < n
    · obtain ⟨c, hx⟩ : ∃ x, L[k]? = some x := ⟨_, List.getElem?_eq_getElem (by rw [HL.out]; omega)⟩
      obtain ⟨b1, o1, ha, hbs, c0⟩ := HT.out.one HB.out (map_get hx)
      have HN := Lib.hid (spansOf_take (most := most) hx)
      have ho := HO.out c (List.mem_of_getElem? hx)
      have HVL : Hid (((spansOf most (L.take k)).map iiC).length ≤ 40) := Lib.hid (by rw [List.length_map, spansOf_len, List.length_take]; omega)
      have HM := Lib.hid (Made.new HV.out HB.out (-1) 0)
      obtain ⟨ca, cl, cc, cs⟩ := c
      simp only at ho c0 HN
      have hcl := ho.1.hlen
      rw [List.length_map] at hcl
      have HCL := Lib.hid hcl
      have HOO := Lib.hid ho
      have hcm := ho.1.hmax
      have hcc := ho.1.hle
      unfold maxLen at hcm
      subst ha
      clear hx ho hcl
      -- the end of a round, once the span stands in its cells
      by_cases e0 : cl = 0
      · subst e0
        have hS : spanOf most k cs = (-1, 0) := by
          have : cs = [] := List.length_eq_zero_iff.1 HCL.out
          subst this
          rfl
        rw [hS] at HN
        clear hS
        go_wp2_with (at_builtin; refine wpList_append_rows _ rfl _ _ 33 rfl w.heap.size 44 _ 2 16 Try.underlying33 info_span rfl (by decide) _ ((spansOf most (L.take k)).map iiC) rfl (HM.out.own.alloc _) ⟨wr.heap.size + 1, 0, none⟩ 1 1 [iiC (-1, 0)] rfl rfl (by simp [iiC]) (one_row _ (iiC (-1, 0)) 44 _ (by simp)) (by simp [iiC, Value.oneCell']) (by have := HVL.out; omega) (by decide) (Nat.le_trans HM.out.bel.size (by simp)) ?_; intro v6 w6 hO6 hg6)
        go_roundg (n - (k + 1))
        case measure => have := HJ.out; omega
        case rel =>
          refine ⟨k + 1, by omega, by go_num, ?_, ?_⟩
          · rw [HN.out, List.map_append]; exact Lib.hid hO6
          · exact Lib.hid ((HM.out.own.alloc _).under (HM.out.bel.alloc HM.out.bel.size _) (Nat.le_refl _) (Nat.le_trans HM.out.bel.size (by simp)) hg6)
      · obtain ⟨x, hx⟩ : ∃ x, cs[0]? = some x := ⟨_, List.getElem?_eq_getElem (by rw [HCL.out]; omega)⟩
        obtain ⟨b2, o2, ha2, hbs2, d0⟩ := HOO.out.1.one HM.out.bel (map_get hx)
        have wx := wf_i64 (HOO.out.2 x (List.mem_of_getElem? hx))
        have bx := withI_bd x ((k : Int) + 1) (by omega)
        have HW := Lib.hid (fun W => within_int x ((k : Int) + 1) W wx (by omega) (by omega))
        have hcl1 : 0 < cl := by omega
        subst ha2
        by_cases e1 : cl = 1
        · subst e1
          have hS : spanOf most k cs = (withI x ((k : Int) + 1) - 1, 0) := by
            unfold spanOf
            rw [hx, List.getElem?_eq_none (by rw [HCL.out]; omega)]
          rw [hS] at HN
          clear hS hx e0
          generalize withI x ((k : Int) + 1) = y at *
          have HM2 := Lib.hid (Made.new HV.out HB.out (y - 1) 0)
          obtain ⟨⟨p0, p1⟩, f0, f1⟩ := box2_cells HM.out.box
          obtain ⟨⟨q0, q1⟩, _, _⟩ := box2_cells HM2.out.box
          rw [Nat.add_zero] at d0
          go_wp2_with fail
          refine (HW.out _).mono ?_
          rintro e w5 ⟨rfl, rfl⟩
          go_wp2_with (at_builtin; refine wpList_append_rows _ rfl _ _ 33 rfl w.heap.size 44 _ 2 16 Try.underlying33 info_span rfl (by decide) _ ((spansOf most (L.take k)).map iiC) rfl (HM2.out.own.alloc _) ⟨wr.heap.size + 1, 0, none⟩ 1 1 [iiC (y - 1, 0)] rfl rfl (by simp [iiC]) (one_row _ (iiC (y - 1, 0)) 44 _ (by simp)) (by simp [iiC, Value.oneCell']) (by have := HVL.out; omega) (by decide) (Nat.le_trans HM2.out.bel.size (by simp)) ?_; intro v6 w6 hO6 hg6)
          go_roundg (n - (k + 1))
          case measure => have := HJ.out; omega
          case rel =>
            refine ⟨k + 1, by omega, by go_num, ?_, ?_⟩
            · rw [HN.out, List.map_append]; exact Lib.hid hO6
            · exact Lib.hid ((HM2.out.own.alloc _).under (HM2.out.bel.alloc HM2.out.bel.size _) (Nat.le_refl _) (Nat.le_trans HM2.out.bel.size (by simp)) hg6)
        · obtain ⟨z, hz⟩ : ∃ x, cs[1]? = some x := ⟨_, List.getElem?_eq_getElem (by rw [HCL.out]; omega)⟩
          have hS : spanOf most k cs = (withI x ((k : Int) + 1) - 1, withI z (most + 1)) := by
            unfold spanOf
            rw [hx, hz]
          rw [hS] at HN
          have wz := wf_i64 (HOO.out.2 z (List.mem_of_getElem? hz))
          have bz := withI_bd z (most + 1) (by omega)
          have HW2 := Lib.hid (fun W => within_int z (most + 1) W wz (by omega) (by omega))
          have hcl2 : 1 < cl := by omega
          have HZ := Lib.hid hz
          clear hS hx e0 e1 hz
          generalize withI x ((k : Int) + 1) = y at *
          generalize withI z (most + 1) = u at *
          have HM2 := Lib.hid (Made.new HV.out HB.out (y - 1) 0)
          have HM3 := Lib.hid (Made.new HV.out HB.out (y - 1) u)
          obtain ⟨⟨p0, p1⟩, f0, f1⟩ := box2_cells HM.out.box
          obtain ⟨⟨q0, q1⟩, g0, g1⟩ := box2_cells HM2.out.box
          obtain ⟨⟨r0, r1⟩, _, _⟩ := box2_cells HM3.out.box
          obtain ⟨b3, o3, ha3, hbs3, d1⟩ := HOO.out.1.one HM2.out.bel (map_get HZ.out)
          simp only [Option.some.injEq, Addr.mk.injEq, and_true] at ha3
          obtain ⟨rfl, rfl⟩ := ha3
          rw [Nat.add_zero] at d0
          go_wp2_with fail
          refine (HW.out _).mono ?_
          rintro e w5 ⟨rfl, rfl⟩
          go_wp2_with fail
          refine (HW2.out _).mono ?_
          rintro e w5 ⟨rfl, rfl⟩
          go_wp2_with (at_builtin; refine wpList_append_rows _ rfl _ _ 33 rfl w.heap.size 44 _ 2 16 Try.underlying33 info_span rfl (by decide) _ ((spansOf most (L.take k)).map iiC) rfl (HM3.out.own.alloc _) ⟨wr.heap.size + 1, 0, none⟩ 1 1 [iiC (y - 1, u)] rfl rfl (by simp [iiC]) (one_row _ (iiC (y - 1, u)) 44 _ (by simp)) (by simp [iiC, Value.oneCell']) (by have := HVL.out; omega) (by decide) (Nat.le_trans HM3.out.bel.size (by simp)) ?_; intro v6 w6 hO6 hg6)
          go_roundg (n - (k + 1))
          case measure => have := HJ.out; omega
          case rel =>
            refine ⟨k + 1, by omega, by go_num, ?_, ?_⟩
            · rw [HN.out, List.map_append]; exact Lib.hid hO6
            · exact Lib.hid ((HM3.out.own.alloc _).under (HM3.out.bel.alloc HM3.out.bel.size _) (Nat.le_refl _) (Nat.le_trans HM3.out.bel.size (by simp)) hg6)
    · obtain rfl : k = n := by omega
      go_wp2
      go_ret
      exact ⟨_, rfl, HV.out, HB.out⟩
end Go.Proofs.Yteddoccgbebbeaa
