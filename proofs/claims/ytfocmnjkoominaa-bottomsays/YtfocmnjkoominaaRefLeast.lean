/- The contract of the document's own least numbers (culref.Least): a set, ranged over, sorted, cut off. -/
import Derived.Test.YtfocmnjkoominaaBottomLeast
import Derived.Test.YtfocmnjkoominaaKeySetN
import Derived.Test.YtfocmnjkoominaaIntSet
import Derived.Maps.RangeWalk
import Derived.Deep.LoopGhost
namespace Go.Proofs.Ytfocmnjkoominaa
open Go.ChangeShapes Go.WideShapes Go.ChangeAt Go.RowKit
open Least

namespace Least
/-- a bool in a box, so that no proof parts on it -/
structure BoxB where
  b : Bool
theorem wf_int {z : Int} (h1 : -9223372036854775808 ≤ z) (h2 : z ≤ 9223372036854775807) : (Lit.int .i64 z).wf = true := by
  simp [Lit.wf, IntKind.min, IntKind.max, IntKind.bits, IntKind.signed]; omega
theorem lawL : Maps.Keyed Try.prog 3 := Maps.int_keyed Try.underlying3
theorem keyL (z : Int) (h : -9223372036854775808 ≤ z ∧ z ≤ 9223372036854775807) : keyOf Try.prog 3 (.int .i64 z) = some (.int .i64 z) := Maps.keyOf_int_mk (P := Try.prog) Try.underlying3 (wf_int h.1 h.2)
/-- what is still to come: the keys that have not come -/
def Coming (left : Lit → Bool) (ks O : List Int) : Prop := ∀ z : Int, left (.int .i64 z) = (decide (z ∈ ks) && !decide (z ∈ O))
theorem coming_next {left : Lit → Bool} {ks O : List Int} (h : Coming left ks O) (x : Int) : Coming (fun z => left z && !z.sameKey (.int .i64 x)) ks (O ++ [x]) := by
  intro z
  have h1 := h z
  simp only [h1]
  by_cases e : z = x
  · subst e; simp [Lit.sameKey]
  · simp [Lit.sameKey, e]
theorem has_false {D : DataW Unit} {z : Int} (h : D.atKey (.int .i64 z) (.lit (.bool false)) = .lit (.bool true)) : Maps.has D (.int .i64 z) = true := by
  cases hh : Maps.has D (.int .i64 z) with
  | true => rfl
  | false => rw [Maps.atKey_of_not_has hh] at h; cases h
end Least

theorem sortInts_own {w : World} {base : Nat} {v : Value} {l : List Int} (h : Own w base 3 1 v (l.map iC)) (hb : l.length ≤ 1000000) :
    Calls Try.prog 45 #[v] w fun e w' => e = .returned (.tuple #[]) ∧ Own w' base 3 1 v ((sortI l).map iC) ∧ w.grownBy w' v.ownBlock := by
  rcases own_ways h with ⟨rfl, a, cap, rfl⟩ | ⟨g, cap, cur, rfl, hg, hcur, hle, hm, hsz, htk⟩
  · refine (sort_Ints_none a cap w).mono ?_
    rintro e w' ⟨rfl, rfl⟩
    exact ⟨rfl, by rw [show sortI [] = [] from by simp [sortI]]; exact h, grown_same _ _⟩
  · have hlt : g < w.heap.size := (Array.getElem?_eq_some_iff.1 hcur).1
    refine (sort_Ints g 0 cap l w (holds_of_blockI hcur htk) hlt (by omega)).mono ?_
    rintro e w' ⟨rfl, n, os, rfl⟩
    refine ⟨rfl, own_again (sortI_len l) hg (heap_sortedI _ hcur) hle hm (by simp [Go.Sort.putCells, hsz]) ?_, grownBy_sortedI _⟩
    exact take_putCellsI cur (sortI l) (by rw [sortI_len, hsz]; exact hle)

set_option maxRecDepth 100000 in
set_option maxHeartbeats 2000000 in
theorem refLeast_any (k : Nat) (a : Option Addr) (len cap : Nat) (l : List Int) (w : World) (h : Tab w a len cap 1 (l.map iC)) (ho : ∀ z ∈ l, -9223372036854775808 ≤ z ∧ z ≤ 9223372036854775807) (hk : k ≤ 40) (hl1 : len ≤ 1000) :
    Calls Try.prog 15 #[.int .i64 k, .slice a len cap] w (RetRows w 3 1 ((T k l).map iC)) := by
  have hl := h.hlen
  rw [List.length_map] at hl
  have hl0 : l.length = len := hl
  have HT := Lib.hid h
  have HO := Lib.hid ho
  have HL := Lib.hid hl0
  clear h ho hl hl0
  have hmm := @run_makeMap Try.prog
  have HM0 := Lib.hid (ownsKeysN_made Try.prog 3 4 w)
  have HBM : Hid (Below w.heap.size w (w.alloc (.map #[] 0))) := Lib.hid ((Below.refl _ _).alloc (Nat.le_refl _) _)
  go_enter Try.func15, Try.ntmps15
  go_wp2_with fail
  clear hmm
  go_loopg [13] len (fun g i wr => ∃ (t : Nat) (ks : List Int), t + g = len ∧ i = .int .i64 t ∧ Hid (OwnsKeysN Try.prog 3 4 wr w.heap.size t ks) ∧ Hid (ks.Nodup ∧ ∀ z, z ∈ ks ↔ z ∈ l.take t) ∧ Hid (ks.length ≤ t) ∧ Hid (Below w.heap.size w wr))
  case atStart => exact ⟨0, [], by omega, rfl, HM0, Lib.hid ⟨List.nodup_nil, fun z => by simp⟩, Lib.hid (Nat.le_refl _), HBM⟩
  case round =>
    clear HM0 HBM
    obtain ⟨t, ks, ht0, rfl, HM, HKS, HKL, HB⟩ := hrel
    have HJ := Lib.hid ht0
    have ht : t ≤ len := by omega
    clear ht0
    by_cases hlt : t < len
    · obtain ⟨x, hx⟩ : ∃ x, l[t]? = some x := ⟨_, List.getElem?_eq_getElem (by rw [HL.out]; omega)⟩
      obtain ⟨b1, o1, ha, hbs, c9⟩ := HT.out.one HB.out (map_get hx)
      have hwx := HO.out x (List.mem_of_getElem? hx)
      have HN : Hid ((addK ks x).Nodup ∧ ∀ z, z ∈ addK ks x ↔ z ∈ l.take (t + 1)) := Lib.hid ⟨nodup_addK HKS.out.1, fun z => by rw [List.take_add_one, hx, mem_addK, HKS.out.2 z]; simp⟩
      have HNL : Hid ((addK ks x).length ≤ t + 1) := Lib.hid (by have := HKL.out; unfold addK; split; omega; rw [List.length_append]; simp; omega)
      have HKY := Lib.hid (keyL x hwx)
      subst ha
      clear hx hwx
      go_wp2_with (at_mapUpdate; refine wpList_putKey _ rfl _ _ _ 83 rfl 3 4 lawL Try.underlying83 Try.underlying4 w.heap.size t ks rfl HM.out (by unfold maxLen; omega) x rfl rfl HKY.out ?_; intro w6 hI6 hg6)
      go_roundg (len - (t + 1))
      case measure => have := HJ.out; omega
      case rel => exact ⟨t + 1, _, by omega, by go_num, Lib.hid hI6, HN, HNL, Lib.hid (HB.out.grown hg6 HB.out.size (fun j hj => by injection hj with hj; omega))⟩
    · obtain rfl : t = len := by omega
      have hKS : ∀ z, z ∈ ks ↔ z ∈ l := fun z => by rw [HKS.out.2 z, List.take_of_length_le (by rw [HL.out]; exact Nat.le_refl _)]
      have HKS2 := Lib.hid hKS
      obtain ⟨D, hD1, hD2, hD3, hD4⟩ := HM.out
      have HD := Lib.hid hD1
      have hh : ∀ z : Int, Maps.has D (.int .i64 z) = decide (z ∈ ks) := fun z => by
        by_cases e : z ∈ ks
        · rw [decide_eq_true e]; exact has_false (hD3 z e)
        · rw [decide_eq_false e]; exact hD4 z e
      have HH := Lib.hid hh
      have HS := Lib.hid hD2
      have hks := HKL.out
      obtain ⟨wo, hwo⟩ : ∃ wo, wo = wr := ⟨_, rfl⟩
      subst hwo
      clear hD1 hD2 hD3 hD4 hh hKS HM
      go_wp2_with (at_range; refine wpList_range_own _ rfl _ 83 rfl 3 4 lawL Try.underlying83 _ w.heap.size _ D rfl HD.out ?_; intro w7 hrg7 hg7 hs7)
      go_frame
      have HB7 : Hid (Below w.heap.size w w7) := Lib.hid (HB.out.grown hg7 HB.out.size (fun q hq => by cases hq))
      rw [HS.out] at hrg7
      have HRG := Lib.hid hrg7
      have HS7 := Lib.hid hs7
      generalize hrr : wo.heap.size = rr at *
      have hrw : w.heap.size ≤ rr := by rw [← hrr]; exact HB.out.size
      clear hrg7 hg7 hs7 hrr HB HD
      go_loopg [8] ks.length (fun g v wx => ∃ (left : Lit → Bool) (cnt : Nat) (O : List Int), Hid (cnt ≤ g) ∧ Hid (wx.ranges Try.prog 3 (plainElem Try.prog 4) w.heap.size rr t D left cnt) ∧ Hid (Coming left ks O) ∧ Hid (O.Nodup ∧ (∀ z ∈ O, z ∈ ks) ∧ O.length + cnt ≤ ks.length) ∧ Hid (Own wx (rr + 1) 3 1 v (O.map iC)) ∧ Hid (rr + 1 ≤ wx.heap.size) ∧ Hid (Below w.heap.size w wx))
      case atStart => exact ⟨_, _, [], Lib.hid (Nat.le_refl _), HRG, Lib.hid (fun z => by rw [HH.out z]; simp), Lib.hid ⟨List.nodup_nil, (fun z hz => by cases hz), (by simp)⟩, Lib.hid (Own.nil _ _ _ _), Lib.hid (by rw [HS7.out]; exact Nat.le_refl _), HB7⟩
      case round =>
        clear HRG HB7 HS7 HH HS
        obtain ⟨left, cnt, O, HG, HR, HC, HN, HV, HZ, HB⟩ := hrel
        go_wp2_with (at_next; refine wpList_next_ranges _ rfl _ rfl 3 lawL (plainElem Try.prog 4) (Value.int .i64) (fun y : BoxB => Value.bool y.b) (fun key kl hkey => by obtain ⟨x, rfl, _⟩ := Maps.keyOf_int_inv Try.underlying3 hkey; exact ⟨x, rfl⟩) (fun v y hv => by obtain ⟨c, rfl, _⟩ := plainBool_inv Try.underlying4 hv; exact ⟨BoxB.mk c, rfl⟩) w.heap.size rr _ D left cnt rfl HR.out ?_ ?_)
        · intro hc0 hl0
          have hOm : ∀ z, z ∈ O ↔ z ∈ l := fun z => by
            rw [← HKS2.out z]
            refine ⟨HN.out.2.1 z, fun hz => ?_⟩
            have h1 := HC.out z
            rw [hl0] at h1
            simpa [hz] using h1.symm
          have hso := sort_nodup HN.out.1 hOm
          have hOl : O.length ≤ 1000 := by have := HN.out.2.2; omega
          have C2 := sortInts_own HV.out (by omega)
          rw [hso] at C2
          have C2 := Lib.hid C2
          have hsl : (uniq l).length = O.length := by rw [← hso, sortI_len]
          have HU := Lib.hid hsl
          obtain ⟨q, cq, rfl, hTq⟩ := HV.out.tab
          have hleq := hTq.hle
          have hmq := hTq.hmax
          rw [List.length_map] at hleq C2 ⊢
          unfold maxLen at hmq
          have HCT := Lib.hid (cut_T k l)
          rw [HU.out] at HCT
          have HVV := Lib.hid HV.out
          obtain ⟨n, hn⟩ : ∃ n, O.length = n := ⟨_, rfl⟩
          rw [hn] at C2 hleq HCT hOl ⊢
          have HNN := Lib.hid hn
          obtain ⟨tt, htt⟩ : ∃ t, min k n = t := ⟨_, rfl⟩
          rw [htt] at HCT
          have ht1 : tt ≤ n := by omega
          have HTT : Hid ((min (k : Int) (n : Int)).toNat = tt) := Lib.hid (by omega)
          have rU := run_upto 22 3 1 Try.underlying22 elem_intB size_intB q n cq tt (by omega)
          clear hso hOm hn hsl hTq htt hc0 hl0
          go_wp2_with fail
          refine C2.out.mono ?_
          rintro e w3 ⟨rfl, hO3, hg3⟩
          have hO4 := hO3.pop ht1
          rw [HCT.out] at hO4
          have HO4 := Lib.hid (hO4.base_le (B := w.heap.size) (by omega))
          have HB3 : Hid (Below w.heap.size w w3) := Lib.hid (HVV.out.under (B := w.heap.size) HB.out (by omega) HB.out.size (by rw [List.length_map, HNN.out]; exact hg3))
          clear hO3 hg3 hO4 C2 HVV HV
          clear rU
          go_wp2
          go_ret
          exact ⟨_, rfl, by show Own w3 _ _ _ (.slice q (min (k : Int) (n : Int)).toNat cq) _; rw [HTT.out]; exact HO4.out, HB3.out⟩
        · intro x c kl y y2 w1 cnt1 hkey hlx hv hat hrg1 hlt1 hg1 hs1 hen
          obtain ⟨x', ex, rfl, hwx⟩ := Maps.keyOf_int_inv Try.underlying3 hkey
          cases ex
          have hxc := HC.out x
          rw [hlx] at hxc
          have hx2 : x ∈ ks ∧ x ∉ O := by simpa using hxc.symm
          have HX := Lib.hid hx2
          have HC1 := Lib.hid (coming_next HC.out x)
          have HR1 := Lib.hid hrg1
          have HL1 := Lib.hid hlt1
          have HB1 : Hid (Below w.heap.size w w1) := Lib.hid (HB.out.grown hg1 HB.out.size (fun q hq => by cases hq; exact hrw))
          have HV1 : Hid (Own w1 (rr + 1) 3 1 u8 (O.map iC)) := Lib.hid (HV.out.keptBy hg1 (by
            cases e : u8.ownBlock with
            | none => exact Or.inl rfl
            | some g => exact Or.inr (fun e2 => by have := (HV.out.own.lt g e).1; injection e2 with e2; omega)))
          have HZ1 : Hid (rr + 1 ≤ w1.heap.size) := Lib.hid (by rw [hs1]; exact HZ.out)
          have hOl : O.length ≤ 1000 := by have := HN.out.2.2; omega
          clear hkey hlx hv hat hrg1 hlt1 hg1 hs1 hx2 hxc HC HR HV HB HZ
          go_wp2_with (at_builtin; refine wpList_append_rows _ rfl _ _ 22 rfl (rr + 1) 3 _ 1 8 Try.underlying22 info_int rfl (by decide) _ (O.map iC) rfl (HV1.out.alloc _) ⟨w1.heap.size, 0, none⟩ 1 1 [iC x] rfl rfl (by simp [iC]) (one_row w1 (iC x) 3 _ rfl) (by simp [iC, Value.oneCell']) (by rw [List.length_map]; omega) (by decide) (Nat.le_trans HZ1.out (by simp)) ?_; intro v6 w6 hO6 hg6)
          go_roundg cnt1
          case measure => have h1 := HG.out; have h2 := HL1.out; omega
          case rel =>
            have hne : ∀ j, u8.ownBlock = some j → rr + 1 ≤ j := fun j hj => (HV1.out.own.lt j hj).1
            refine ⟨_, cnt1, O ++ [x], Lib.hid (Nat.le_refl _), Lib.hid ((HR1.out.alloc (.cells (iC x).toArray 3)).kept hg6 (fun e => by have := hne _ e.symm; omega) (fun e => by have := hne _ e.symm; omega)), HC1, ?_, ?_, ?_, ?_⟩
            · refine Lib.hid ⟨?_, ?_, ?_⟩
              · rw [List.nodup_append]
                exact ⟨HN.out.1, by simp, fun a ha b hb => by rw [List.mem_singleton.1 hb]; exact fun e => HX.out.2 (e ▸ ha)⟩
              · intro z hz
                rcases List.mem_append.1 hz with h | h
                · exact HN.out.2.1 z h
                · rw [List.mem_singleton.1 h]; exact HX.out.1
              · have h1 := HN.out.2.2
                have h2 := HL1.out
                rw [List.length_append]
                simp only [List.length_cons, List.length_nil]
                omega
            · rw [List.map_append]; exact Lib.hid hO6
            · exact Lib.hid (Nat.le_trans HZ1.out (Nat.le_trans (by simp) hg6.size))
            · exact Lib.hid ((HV1.out.alloc (.cells (iC x).toArray 3)).under (HB1.out.alloc HB1.out.size _) (by omega) (Nat.le_trans HB1.out.size (by simp)) hg6)
end Go.Proofs.Ytfocmnjkoominaa
