/- The contract of the program's bottom.Check. -/
import Derived.Test.YtfocmnjkoominaaLeastMath
import Derived.Test.YtfocmnjkoominaaBase
import Derived.Test.YtfocmnjkoominaaOwnMore
import Derived.Deep.LoopGhost
import Derived.WalkKit
namespace Go.Proofs.Ytfocmnjkoominaa
open Go.ChangeShapes Go.WideShapes Go.ChangeAt Go.RowKit

namespace Least
/-- what is wrong with the numbers behind one -/
def scanE (last : Int) : List Int → Int
  | [] => 0
  | n :: l => if n < 0 ∨ 72057594037927936 ≤ n then 1 else if n ≤ last then 3 else scanE n l
/-- what Check answers -/
def bottomE (K : Int) (L : List Int) : Int := if K < 1 ∨ 40 < K then 1 else if K < (L.length : Int) then 2 else scanE (-1) L
def okB (l : List Int) : Prop := Up l ∧ ∀ y ∈ l, 0 ≤ y ∧ y < 72057594037927936
theorem scan_ok : ∀ {l : List Int} {last : Int}, Up (last :: l) → (∀ y ∈ l, 0 ≤ y ∧ y < 72057594037927936) → scanE last l = 0
  | [], _, _, _ => rfl
  | n :: l, last, hu, hr => by
    unfold Up at hu
    rw [List.pairwise_cons] at hu
    have h1 := hr n (by simp)
    have h2 := hu.1 n (by simp)
    rw [scanE, if_neg (by omega), if_neg (by omega)]
    exact scan_ok hu.2 (fun y hy => hr y (List.mem_cons_of_mem _ hy))
theorem scan_zero : ∀ {l : List Int} {last : Int}, scanE last l = 0 → Up (last :: l) ∧ ∀ y ∈ l, 0 ≤ y ∧ y < 72057594037927936
  | [], _, _ => ⟨by simp [Up], by simp⟩
  | n :: l, last, h => by
    rw [scanE] at h
    split at h
    · cases h
    · split at h
      · cases h
      · obtain ⟨h1, h2⟩ := scan_zero h
        refine ⟨?_, fun y hy => ?_⟩
        · unfold Up at h1 ⊢
          rw [List.pairwise_cons]
          refine ⟨fun y hy => ?_, h1⟩
          rcases List.mem_cons.1 hy with rfl | hy
          · omega
          · have := (List.pairwise_cons.1 h1).1 y hy; omega
        · rcases List.mem_cons.1 hy with rfl | hy
          · omega
          · exact h2 y hy
theorem bottomE_ok {K : Nat} {l : List Int} (h1 : 1 ≤ K) (h2 : K ≤ 40) (hl : l.length ≤ K) (hu : okB l) : bottomE K l = 0 := by
  unfold bottomE
  rw [if_neg (by omega), if_neg (by omega)]
  refine scan_ok ?_ hu.2
  unfold Up
  rw [List.pairwise_cons]
  exact ⟨fun y hy => by have := hu.2 y hy; omega, hu.1⟩
theorem bottomE_zero {K : Int} {l : List Int} (h : bottomE K l = 0) : 1 ≤ K ∧ K ≤ 40 ∧ (l.length : Int) ≤ K ∧ okB l := by
  unfold bottomE at h
  split at h
  · cases h
  · split at h
    · cases h
    · obtain ⟨h1, h2⟩ := scan_zero h
      exact ⟨by omega, by omega, by omega, (List.pairwise_cons.1 h1).2, h2⟩
theorem scan_at {l : List Int} {last : Int} {k : Nat} {y : Int} (h : l[k]? = some y) : scanE last (l.drop k) = if y < 0 ∨ 72057594037927936 ≤ y then 1 else if y ≤ last then 3 else scanE y (l.drop (k + 1)) := by
  obtain ⟨hk, rfl⟩ := List.getElem?_eq_some_iff.1 h
  rw [List.drop_eq_getElem_cons hk, scanE]
def lastAt (l : List Int) (k : Nat) : Int := match k with | 0 => -1 | k + 1 => match l[k]? with | some y => y | none => -1
theorem lastAt_succ {l : List Int} {k : Nat} {y : Int} (h : l[k]? = some y) : lastAt l (k + 1) = y := by unfold lastAt; simp only [h]
end Least
open Least
def bottomV (K : Int) (a : Option Addr) (len cap : Nat) : Value := .agg #[.int .i64 K, .slice a len cap]

set_option maxHeartbeats 400000 in
theorem inRange_any (n : Int) (w : World) : Calls Try.prog 42 #[.int .i64 n] w fun e w' => e = .returned (.bool (decide (0 ≤ n) && decide (n < 72057594037927936))) ∧ w = w' := by
  by_cases h0 : 0 ≤ n
  · rw [decide_eq_true h0, Bool.true_and]
    go_enter Try.func42, Try.ntmps42
    go_wp2
    go_ret
    exact ⟨rfl, rfl⟩
  · have h0' : n < 0 := by omega
    rw [decide_eq_false h0, Bool.false_and]
    clear h0
    go_enter Try.func42, Try.ntmps42
    go_wp2
    go_ret
    exact ⟨rfl, rfl⟩

set_option maxRecDepth 100000 in
set_option maxHeartbeats 2000000 in
theorem bcheck_any (K : Int) (a : Option Addr) (len cap : Nat) (l : List Int) (w : World) (h : Tab w a len cap 1 (l.map iC)) :
    Calls Try.prog 12 #[bottomV K a len cap] w fun e w' => e = .returned (.int .i64 (bottomE K l)) ∧ Below w.heap.size w w' := by
  unfold bottomV
  have hb : Below w.heap.size w (w.alloc (.cells #[.int .i64 K, .slice a len cap] 24)) := (Below.refl _ _).alloc (Nat.le_refl _) _
  have HB := Lib.hid hb
  have hl := h.hlen
  rw [List.length_map] at hl
  have hm := h.hmax
  unfold maxLen at hm
  have hle := h.hle
  clear hb
  by_cases h1 : K < 1
  · have E : bottomE K l = 1 := if_pos (Or.inl h1)
    rw [E]
    clear E h hl
    go_enter Try.func12, Try.ntmps12
    go_wp2
    go_ret
    exact ⟨rfl, HB.out⟩
  by_cases h2 : 40 < K
  · have E : bottomE K l = 1 := if_pos (Or.inr h2)
    rw [E]
    clear E h hl
    go_enter Try.func12, Try.ntmps12
    go_wp2
    go_ret
    exact ⟨rfl, HB.out⟩
  have h1' : 1 ≤ K := by omega
  have h2' : K ≤ 40 := by omega
  by_cases h3 : K < (len : Int)
  · have E : bottomE K l = 2 := (if_neg (by omega)).trans (if_pos (by omega))
    rw [E]
    clear E h hl h1 h2
    go_enter Try.func12, Try.ntmps12
    go_wp2
    go_ret
    exact ⟨rfl, HB.out⟩
  have h3' : (len : Int) ≤ K := by omega
  obtain ⟨E, hE⟩ : ∃ E, bottomE K l = E := ⟨_, rfl⟩
  have HE0 : Hid (scanE (lastAt l 0) (l.drop 0) = E) := Lib.hid (by rw [← hE]; exact ((if_neg (by omega)).trans (if_neg (by omega))).symm)
  rw [hE]
  have HT := Lib.hid h
  have HL := Lib.hid hl
  have HC : Hid (∀ wr, Below (w.alloc (.cells #[.int .i64 K, .slice a len cap] 24)).heap.size (w.alloc (.cells #[.int .i64 K, .slice a len cap] 24)) wr → wr.cell? ⟨w.heap.size, 1, none⟩ = some (.slice a len cap)) := Lib.hid (fun wr hb => by
    rw [hb.cell (by simp)]
    exact cell_blk (MapKept.heap_alloc w _).1 rfl)
  clear h hl hE h1 h2 h3
  go_enter Try.func12, Try.ntmps12
  go_wp2_with fail
  obtain ⟨wl, hwl⟩ : ∃ wl, w.alloc (.cells #[.int .i64 K, .slice a len cap] 24) = wl := ⟨_, rfl⟩
  rw [hwl] at HB HC ⊢
  clear hwl
  go_loopg [22] len (fun g i wr => ∃ k : Nat, k + g = len ∧ i = .int .i64 k ∧ Hid (scanE (lastAt l k) (l.drop k) = E) ∧ Hid (Below wl.heap.size wl wr))
  case atStart => exact ⟨0, by omega, rfl, HE0, Lib.hid (Below.refl _ _)⟩
  case round =>
    clear HE0
    obtain ⟨k, hk0, rfl, HE, HW⟩ := hrel
    have HJ := Lib.hid hk0
    have hk : k ≤ len := by omega
    clear hk0
    by_cases hlt : k < len
    · obtain ⟨y, hy⟩ : ∃ x, l[k]? = some x := ⟨_, List.getElem?_eq_getElem (by rw [HL.out]; exact hlt)⟩
      have hbb := below_on HB.out HW.out
      obtain ⟨b1, o1, ha, hbs, d0⟩ := HT.out.one hbb (map_get hy)
      have c1 := HC.out wr HW.out
      have hA := scan_at (last := lastAt l k) hy
      rw [HE.out] at hA
      have HLS := Lib.hid (lastAt_succ hy)
      have HA := Lib.hid hA
      clear hA
      have CI := Lib.hid (fun W => inRange_any y W)
      have HBB := Lib.hid hbb
      clear hbb
      by_cases g1 : y < 0 ∨ 72057594037927936 ≤ y
      · obtain rfl : E = 1 := by rw [HA.out, if_pos g1]
        rw [show (decide (0 ≤ y) && decide (y < 72057594037927936)) = false from by rw [← Bool.not_eq_true, Bool.and_eq_true, decide_eq_true_iff, decide_eq_true_iff]; omega] at CI
        subst ha
        clear g1 hy HA
        go_wp2_with fail
        refine (CI.out _).mono ?_
        rintro e w2 ⟨rfl, rfl⟩
        go_wp2
        go_ret
        exact ⟨rfl, HBB.out⟩
      rw [show (decide (0 ≤ y) && decide (y < 72057594037927936)) = true from by rw [Bool.and_eq_true, decide_eq_true_iff, decide_eq_true_iff]; omega] at CI
      have g2 : 0 ≤ y := by omega
      rw [if_neg g1] at HA
      clear g1
      by_cases hz : k = 0
      · subst hz
        have HA2 : Hid (E = scanE y (l.drop 1)) := Lib.hid (by rw [HA.out]; exact if_neg (by show ¬ y ≤ -1; omega))
        have HLS2 : Hid (lastAt l 1 = y) := HLS
        subst ha
        have d0' : wr.cell? ⟨b1, o1, none⟩ = some (.int .i64 y) := by simpa using d0
        clear hy HA HLS d0
        go_wp2_with fail
        refine (CI.out _).mono ?_
        rintro e w2 ⟨rfl, rfl⟩
        go_wp2_with fail
        go_roundg (len - 1)
        case measure => have := HJ.out; omega
        case rel => exact ⟨1, by omega, by go_num, Lib.hid (by rw [HLS2.out, ← HA2.out]), HW⟩
      · obtain ⟨j, rfl⟩ : ∃ j, k = j + 1 := ⟨k - 1, by omega⟩
        obtain ⟨x, hx⟩ : ∃ x, l[j]? = some x := ⟨_, List.getElem?_eq_getElem (by rw [HL.out]; omega)⟩
        obtain ⟨b2, o2, ha2, hbs2, d2⟩ := HT.out.one HBB.out (map_get hx)
        rw [lastAt_succ hx] at HA
        subst ha
        simp only [Option.some.injEq, Addr.mk.injEq, and_true] at ha2
        obtain ⟨rfl, rfl⟩ := ha2
        have e1 : (((j + 1 : Nat) : Int) - 1) = (j : Int) := by omega
        clear hy hx hz
        by_cases g3 : y ≤ x
        · obtain rfl : E = 3 := by rw [HA.out, if_pos g3]
          clear HA
          go_wp2_with fail
          refine (CI.out _).mono ?_
          rintro e w2 ⟨rfl, rfl⟩
          go_wp2
          go_ret
          exact ⟨rfl, HBB.out⟩
        · rw [if_neg g3] at HA
          have g3' : x < y := by omega
          clear g3
          go_wp2_with fail
          refine (CI.out _).mono ?_
          rintro e w2 ⟨rfl, rfl⟩
          go_wp2_with fail
          go_roundg (len - (j + 1 + 1))
          case measure => have := HJ.out; omega
          case rel => exact ⟨j + 1 + 1, by omega, by go_num, Lib.hid (by rw [HLS.out, ← HA.out]), HW⟩
    · obtain rfl : k = len := by omega
      obtain rfl : E = 0 := by rw [← HE.out, List.drop_of_length_le (by rw [HL.out]; omega)]; rfl
      go_wp2
      go_ret
      exact ⟨rfl, below_on HB.out HW.out⟩
end Go.Proofs.Ytfocmnjkoominaa
