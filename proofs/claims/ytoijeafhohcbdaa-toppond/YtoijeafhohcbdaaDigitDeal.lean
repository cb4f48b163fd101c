/- The contract of the program's digit.Deal. -/
import Derived.Test.YtoijeafhohcbdaaDigitMath
import Derived.Test.YtoijeafhohcbdaaCloneInts
import Derived.Test.YtoijeafhohcbdaaOwnMore
import Derived.Test.YtoijeafhohcbdaaRefGateMath
import Derived.RegionTactic
import Derived.BigRegion
import Derived.Deep.LoopGhost
namespace Go.Proofs.Ytoijeafhohcbdaa
open Go.ChangeShapes Go.WideShapes Go.ChangeAt Go.RowKit
open Digit

theorem swap_map {l : List Int} {i j : Nat} {x y : Int} (hi : l[i]? = some x) (hj : l[j]? = some y) : (((l.map iC).set i [.int .i64 y]).set j [.int .i64 x]) = (swapAt l i j).map iC := by
  unfold swapAt
  rw [hi, hj, List.map_set, List.map_set]
  rfl
theorem Own.swap {w : World} {base : Nat} {e : TypeId} {g n cap : Nat} {l : List Int} {i j : Nat} {x y : Int} (h : Own w base e 1 (.slice (some ⟨g, 0, none⟩) n cap) (l.map iC)) (hi : l[i]? = some x) (hj : l[j]? = some y) :
    Own ((w.setCell ⟨g, i, none⟩ (.int .i64 y)).setCell ⟨g, j, none⟩ (.int .i64 x)) base e 1 (.slice (some ⟨g, 0, none⟩) n cap) ((swapAt l i j).map iC) := by
  have h1 := h.set1 (map_get hi) (.int .i64 y)
  have hjl : j < ((l.map iC).set i [Value.int .i64 y]).length := by
    rw [List.length_set, List.length_map]; exact (List.getElem?_eq_some_iff.1 hj).1
  have hr : ∃ u, ((l.map iC).set i [Value.int .i64 y])[j]? = some [u] := by
    by_cases e : i = j
    · subst e
      exact ⟨_, by rw [List.getElem?_set_self (by rw [List.length_map]; exact (List.getElem?_eq_some_iff.1 hj).1)]⟩
    · exact ⟨_, by rw [List.getElem?_set_ne e, List.getElem?_map, hj]; rfl⟩
  obtain ⟨u, hu⟩ := hr
  have h2 := h1.set1 hu (.int .i64 x)
  rw [swap_map hi hj] at h2
  exact h2
/-- is each of these draws, the first of which has the index k, from 0 to its index? -/
def drawsB : Nat → List Int → Bool
  | _, [] => true
  | k, x :: r => (decide (0 ≤ x) && decide (x ≤ (k : Int))) && drawsB (k + 1) r
theorem drawsB_iff : ∀ (d : List Int) (k : Nat), drawsB k d = true ↔ ∀ (i : Nat) (x : Int), d[i]? = some x → 0 ≤ x ∧ x ≤ ((k + i : Nat) : Int)
  | [], k => by simp [drawsB]
  | x :: r, k => by
    rw [drawsB, Bool.and_eq_true, Bool.and_eq_true, drawsB_iff r (k + 1), decide_eq_true_iff, decide_eq_true_iff]
    constructor
    · rintro ⟨h1, h2⟩ i y hy
      cases i with
      | zero => simp at hy; subst hy; simpa using h1
      | succ i =>
        simp at hy
        have := h2 i y hy
        rw [show k + (i + 1) = k + 1 + i from by omega]
        exact this
    · intro h
      refine ⟨by simpa using h 0 x rfl, fun i y hy => ?_⟩
      have := h (i + 1) y (by simpa using hy)
      rw [show k + 1 + i = k + (i + 1) from by omega]
      exact this
theorem drawsB_ok {d : List Int} : drawsB 0 d = true ↔ DrawsOk d := by
  rw [drawsB_iff]
  unfold DrawsOk
  simp
theorem drawsB_step {d : List Int} {k : Nat} {x : Int} (h : d[k]? = some x) : drawsB k (d.drop k) = ((decide (0 ≤ x) && decide (x ≤ (k : Int))) && drawsB (k + 1) (d.drop (k + 1))) := by
  obtain ⟨hk, rfl⟩ := List.getElem?_eq_some_iff.1 h
  rw [List.drop_eq_getElem_cons hk, drawsB]
set_option maxRecDepth 100000 in
set_option maxHeartbeats 2000000 in
theorem deal_mid (a b : Option Addr) (la ca lb cb : Nat) (l d : List Int) (w : World) (h1 : Tab w a la ca 1 (l.map iC)) (h2 : Tab w b lb cb 1 (d.map iC)) (h12 : l.length ≤ 12) (hl : d.length = l.length) :
    Calls Try.prog 37 #[.slice a la ca, .slice b lb cb] w fun e w' => ∃ v, e = .returned (.tuple #[v, .int .i64 (if drawsB 0 d = true then 0 else 1)]) ∧ Own w' w.heap.size 3 1 v ((if drawsB 0 d = true then dealTo l d l.length else []).map iC) ∧ Below w.heap.size w w' := by
  have l1 := h1.hlen
  have l2 := h2.hlen
  rw [List.length_map] at l1 l2
  obtain rfl : lb = la := by omega
  have hla : lb ≤ 12 := by omega
  have C := Lib.hid (clone_ints a lb ca l w h1 (by omega))
  have H2 := Lib.hid h2
  obtain ⟨B, hB⟩ : ∃ B, drawsB 0 d = B := ⟨_, rfl⟩
  rw [hB]
  have HB : Hid (drawsB 0 (d.drop 0) = B) := Lib.hid hB
  have L1 := Lib.hid l1
  have L2 := Lib.hid l2
  have t0 : ((lb : Int) != (lb : Int)) = false := by simp
  clear h1 h2 hl l1 l2 h12 hB
  go_enter Try.func37, Try.ntmps37
  go_wp2_with fail
  refine C.out.mono ?_
  rintro e w1 ⟨v, rfl, hO, hb⟩
  obtain ⟨a1, cap1, rfl, hT1⟩ := hO.tab
  have l3 : (l.map iC).length = lb := by rw [List.length_map]; exact L1.out
  rw [l3] at hO ⊢
  have HO := Lib.hid hO
  clear hO hT1 l3 C
  go_wp2
  go_loopg [21] lb (fun g i wr => ∃ k : Nat, k + g = lb ∧ i = .int .i64 k ∧ Hid (drawsB k (d.drop k) = B) ∧ Hid (Own wr w.heap.size 3 1 (.slice a1 lb cap1) ((dealTo l d k).map iC)) ∧ Below w.heap.size w wr)
  case atStart => exact ⟨0, by omega, rfl, HB, HO, hb⟩
  case round =>
    clear hb HO HB
    obtain ⟨k, hk0, rfl, HB, HO, hb⟩ := hrel
    have HJ := Lib.hid hk0
    have hk : k ≤ lb := by omega
    clear hk0
    by_cases hlt : k < lb
    · obtain ⟨z, hz⟩ : ∃ z, d[k]? = some z := ⟨_, List.getElem?_eq_getElem (by rw [L2.out]; exact hlt)⟩
      obtain ⟨b1, o1, ha, hbs, c0⟩ := H2.out.one hb (map_get hz)
      have HZ := Lib.hid (drawsB_step hz)
      by_cases hbad : z < 0 ∨ (k : Int) < z
      · obtain rfl : B = false := by
          rw [← HB.out, HZ.out]
          rcases hbad with h | h
          · rw [show decide (0 ≤ z) = false from decide_eq_false (by omega)]; rfl
          · rw [show decide (z ≤ (k : Int)) = false from decide_eq_false (by omega), Bool.and_false]; rfl
        subst ha
        clear hz HZ HB HO
        by_cases hz0 : z < 0
        · clear hbad
          go_wp2
          go_ret2
          exact ⟨_, rfl, Own.nil _ _ _ _, hb⟩
        · have hz1 : (k : Int) < z := by omega
          clear hbad
          go_wp2
          go_ret2
          exact ⟨_, rfl, Own.nil _ _ _ _, hb⟩
      have hz0 : 0 ≤ z := by omega
      have hz1 : z ≤ (k : Int) := by omega
      have HB2 : Hid (drawsB (k + 1) (d.drop (k + 1)) = B) := by
        have := HZ.out
        rw [HB.out, show decide (0 ≤ z) = true from decide_eq_true hz0, show decide (z ≤ (k : Int)) = true from decide_eq_true hz1, Bool.and_true, Bool.true_and] at this
        exact Lib.hid this.symm
      clear HZ HB hbad
      obtain ⟨j, rfl⟩ := Int.eq_ofNat_of_zero_le hz0
      have hjk : j ≤ k := by omega
      have hO := HO.out
      obtain ⟨g, rfl⟩ : ∃ g, a1 = some ⟨g, 0, none⟩ := by
        rcases hO.own.2 with ⟨h0, h0'⟩ | ⟨g', cap', cur, h0, _⟩
        · rw [List.length_map, deal_len, L1.out] at h0'; omega
        · simp only [Value.slice.injEq] at h0
          exact ⟨g', h0.1⟩
      have hll := deal_len l d k
      rw [L1.out] at hll
      obtain ⟨x, hx⟩ : ∃ x, (dealTo l d k)[k]? = some x := ⟨_, List.getElem?_eq_getElem (by omega)⟩
      obtain ⟨y, hy⟩ : ∃ y, (dealTo l d k)[j]? = some y := ⟨_, List.getElem?_eq_getElem (by omega)⟩
      obtain ⟨c1, f1, g1, g2⟩ := hO.at1 (map_get hx)
      obtain ⟨c2, f2, _, _⟩ := hO.at1 (map_get hy)
      have HS : Hid (Own ((wr.setCell ⟨g, k, none⟩ (.int .i64 y)).setCell ⟨g, j, none⟩ (.int .i64 x)) w.heap.size 3 1 (.slice (some ⟨g, 0, none⟩) lb cap1) ((dealTo l d (k + 1)).map iC)) := by
        have := hO.swap hx hy
        rw [dealTo, hz]
        exact Lib.hid this
      subst ha
      obtain ⟨v2, hv2⟩ := cell?_setCell_some (w := wr) (p := ⟨g, k, none⟩) (x := .int .i64 y) (q := ⟨g, j, none⟩) (v := .int .i64 y) c2
      have hv3 : (wr.setCell ⟨g, k, none⟩ (.int .i64 y)).drew.cell? ⟨g, j, none⟩ = some v2 := hv2
      have hjl : j < lb := by omega
      clear hz hx hy hll hO HO hz0 hz1
      go_wp2
      go_region
      go_wp2
      go_roundg (lb - (k + 1))
      case measure => have := HJ.out; omega
      case rel => exact ⟨k + 1, by omega, by go_num, HB2, HS.out.drew, ((hb.setCell g1 _).setCell g1 _).drew⟩
    · obtain rfl : k = lb := by omega
      obtain rfl : B = true := by
        rw [← HB.out, List.drop_of_length_le (by rw [L2.out]; omega)]; rfl
      go_wp2
      go_ret2
      exact ⟨_, rfl, by rw [L1.out]; exact HO.out, hb⟩

theorem deal_ok (a b : Option Addr) (la ca lb cb : Nat) (l d : List Int) (w : World) (h1 : Tab w a la ca 1 (l.map iC)) (h2 : Tab w b lb cb 1 (d.map iC)) (h12 : l.length ≤ 12) (hl : d.length = l.length) (hd : DrawsOk d) :
    Calls Try.prog 37 #[.slice a la ca, .slice b lb cb] w fun e w' => ∃ v, e = .returned (.tuple #[v, .int .i64 0]) ∧ Own w' w.heap.size 3 1 v ((dealTo l d l.length).map iC) ∧ Below w.heap.size w w' := by
  have h := deal_mid a b la ca lb cb l d w h1 h2 h12 hl
  rw [if_pos (drawsB_ok.2 hd), if_pos (drawsB_ok.2 hd)] at h
  exact h
/-- what Deal answers -/
def dealE (l d : List Int) : Int := if 12 < l.length then 2 else if d.length ≠ l.length then 7 else if drawsB 0 d = true then 0 else 1
def dealP (l d : List Int) : List Int × Int := (if dealE l d = 0 then dealTo l d l.length else [], dealE l d)
set_option maxRecDepth 100000 in
set_option maxHeartbeats 1000000 in
theorem deal_any (a b : Option Addr) (la ca lb cb : Nat) (l d : List Int) (w : World) (h1 : Tab w a la ca 1 (l.map iC)) (h2 : Tab w b lb cb 1 (d.map iC)) :
    Calls Try.prog 37 #[.slice a la ca, .slice b lb cb] w fun e w' => ∃ v, e = .returned (.tuple #[v, .int .i64 (dealP l d).2]) ∧ Own w' w.heap.size 3 1 v ((dealP l d).1.map iC) ∧ Below w.heap.size w w' := by
  have l1 := h1.hlen
  have l2 := h2.hlen
  have m1 := h1.hmax
  have e1 := h1.hle
  have m2 := h2.hmax
  have e2 := h2.hle
  rw [List.length_map] at l1 l2
  unfold maxLen at m1 m2
  by_cases h12 : 12 < l.length
  · have E : dealP l d = ([], 2) := by unfold dealP dealE; rw [if_pos h12]; rfl
    rw [E]
    have h12' : 12 < la := by omega
    clear h1 h2 E l1 h12
    go_enter Try.func37, Try.ntmps37
    go_wp2
    go_ret2
    exact ⟨_, rfl, Own.nil _ _ _ _, Below.refl _ _⟩
  · by_cases hl : d.length = l.length
    · have h := deal_mid a b la ca lb cb l d w h1 h2 (by omega) hl
      have E : dealP l d = (if drawsB 0 d = true then dealTo l d l.length else [], if drawsB 0 d = true then 0 else 1) := by
        unfold dealP dealE
        rw [if_neg h12, if_neg (show ¬ (d.length ≠ l.length) from fun h => h hl)]
        cases drawsB 0 d <;> simp
      rw [E]
      exact h
    · have E : dealP l d = ([], 7) := by unfold dealP dealE; rw [if_neg h12, if_pos hl]; rfl
      rw [E]
      have h12' : la ≤ 12 := by omega
      have t0 : ((lb : Int) != (la : Int)) = true := by rw [bne_iff_ne]; omega
      clear h1 h2 E l1 l2 h12 hl
      go_enter Try.func37, Try.ntmps37
      go_wp2
      go_ret2
      exact ⟨_, rfl, Own.nil _ _ _ _, Below.refl _ _⟩

end Go.Proofs.Ytoijeafhohcbdaa
