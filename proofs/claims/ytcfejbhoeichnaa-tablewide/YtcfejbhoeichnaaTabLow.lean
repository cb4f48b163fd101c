/- Count-min sketches: between the true count and the total; each row has the total. And the contract of the laws' own sum (culkeep.sum) for such a row. -/
import Derived.Test.YtcfejbhoeichnaaTabSums
import Derived.Test.YtcfejbhoeichnaaTabMin
import Derived.Test.YtcfejbhoeichnaaRefCounts
namespace Go.Proofs.Ytcfejbhoeichnaa
open Go.ChangeShapes Go.WideShapes Go.ChangeAt Go.RowKit
open Came
namespace Tbl

theorem cnt_bd {s i j : Nat} : ∀ {C : List (Int × Int)}, (∀ p ∈ C, 0 ≤ p.2) → 0 ≤ cnt s i j C ∧ cnt s i j C ≤ sumN C
  | [], _ => by simp [cnt, sumN]
  | p :: C, h => by
    have h1 := h p (by simp)
    have h2 := cnt_bd (s := s) (i := i) (j := j) (C := C) (fun q hq => h q (by simp [hq]))
    have e : sumN (p :: C) = p.2 + sumN C := by simp [sumN]
    rw [cnt_cons, e]
    split <;> omega
theorem oft_le {s i : Nat} {k : Int} : ∀ {C : List (Int × Int)}, (∀ p ∈ C, 0 ≤ p.2) → oft k C ≤ cnt s i (colN s k i) C
  | [], _ => by simp [cnt, oft]
  | p :: C, h => by
    have h1 := h p (by simp)
    have h2 := oft_le (s := s) (i := i) (k := k) (C := C) (fun q hq => h q (by simp [hq]))
    rw [cnt_cons, oft]
    by_cases hk : p.1 = k
    · rw [if_pos hk, if_pos (by rw [hk])]; omega
    · rw [if_neg hk]
      split <;> omega
theorem sum_snoc (l : List Int) (x : Int) : (l ++ [x]).sum = l.sum + x := by simp
theorem sum_add (f g : Nat → Int) : ∀ n : Nat, ((List.range n).map (fun j => f j + g j)).sum = ((List.range n).map f).sum + ((List.range n).map g).sum
  | 0 => by simp
  | n + 1 => by
    rw [List.range_succ, List.map_append, List.map_append, List.map_append, List.map_singleton, List.map_singleton, List.map_singleton, sum_snoc, sum_snoc, sum_snoc, sum_add f g n]
    omega
theorem sum_one (q : Nat) (v : Int) : ∀ n : Nat, ((List.range n).map (fun j => if q = j then v else 0)).sum = if q < n then v else 0
  | 0 => by simp
  | n + 1 => by
    rw [List.range_succ, List.map_append, List.map_singleton, sum_snoc, sum_one q v n]
    by_cases h : q = n
    · rw [if_pos h, if_neg (by omega), if_pos (by omega)]; omega
    · rw [if_neg h, Int.add_zero]
      by_cases h2 : q < n
      · rw [if_pos h2, if_pos (by omega)]
      · rw [if_neg h2, if_neg (by omega)]
theorem cnt_sum {s i : Nat} (h1 : 1 ≤ s) : ∀ C : List (Int × Int), ((List.range s).map (fun j => cnt s i j C)).sum = sumN C
  | [] => by
    have : ∀ n : Nat, ((List.range n).map (fun j => cnt s i j [])).sum = 0 := by
      intro n
      induction n with
      | zero => simp
      | succ n ih => rw [List.range_succ, List.map_append, List.map_singleton, sum_snoc, ih, cnt_nil]; rfl
    rw [this]; simp [sumN]
  | p :: C => by
    have e : sumN (p :: C) = p.2 + sumN C := by simp [sumN]
    have hf : (fun j => cnt s i j (p :: C)) = (fun j => (if colN s p.1 i = j then p.2 else 0) + cnt s i j C) := by funext j; rw [cnt_cons]
    rw [hf, sum_add, cnt_sum h1 C, sum_one, if_pos (colN_lt h1), e]
theorem row_is (s i : Nat) (C : List (Int × Int)) : (List.replicate s (0 : Int)).mapIdx (fun j x => x + cnt s i j C) = (List.range s).map (fun j => cnt s i j C) := by
  apply List.ext_getElem?
  intro j
  rw [List.getElem?_mapIdx, List.getElem?_map]
  by_cases hj : j < s
  · rw [List.getElem?_replicate, if_pos hj, List.getElem?_range hj, Option.map_some, Option.map_some, Int.zero_add]
  · rw [List.getElem?_replicate, if_neg hj, List.getElem?_eq_none (by rw [List.length_range]; omega)]; rfl
theorem all_row {s m i : Nat} {C : List (Int × Int)} {r : List Int} (h : (allR s C (zeroR s m))[i]? = some r) : r = (List.range s).map (fun j => cnt s i j C) := by
  have hi : i < m := by have := (List.getElem?_eq_some_iff.1 h).1; rw [allR_len] at this; simpa [zeroR] using this
  have hr : (zeroR s m)[i]? = some (List.replicate s 0) := by unfold zeroR; rw [List.getElem?_replicate, if_pos hi]
  rw [allR_get s i C _ _ hr, Option.some.injEq] at h
  rw [← h, row_is]
theorem all_sum {s m i : Nat} {C : List (Int × Int)} {r : List Int} (h1 : 1 ≤ s) (h : (allR s C (zeroR s m))[i]? = some r) : r.sum = sumN C := by rw [all_row h, cnt_sum h1]
theorem all_at {s m i : Nat} {C : List (Int × Int)} {r : List Int} {k : Int} (h1 : 1 ≤ s) (h : (allR s C (zeroR s m))[i]? = some r) : atR s k i r = cnt s i (colN s k i) C := by
  rw [all_row h]
  refine atR_is ?_
  rw [List.getElem?_map, List.getElem?_range (colN_lt h1)]
  rfl
theorem ask_all {s m : Nat} {C : List (Int × Int)} {k : Int} (h1 : 1 ≤ s) (h3 : 1 ≤ m) (hp : ∀ p ∈ C, 0 ≤ p.2) (hS : sumN C ≤ 60000) : oft k C ≤ askR s k (allR s C (zeroR s m)) ∧ askR s k (allR s C (zeroR s m)) ≤ sumN C := by
  have hl : (allR s C (zeroR s m)).length = m := by rw [allR_len]; simp [zeroR]
  obtain ⟨r0, hr0⟩ : ∃ r, (allR s C (zeroR s m))[0]? = some r := ⟨_, List.getElem?_eq_getElem (by rw [hl]; omega)⟩
  have k0 := ask_le (s := s) (x := k) hr0
  rw [all_at h1 hr0] at k0
  have k1 := (cnt_bd (s := s) (i := 0) (j := colN s k 0) hp).2
  refine ⟨?_, by omega⟩
  rcases ask_is s k (allR s C (zeroR s m)) with h | ⟨i, r, hr, h⟩
  · omega
  · rw [h, all_at h1 hr]
    exact oft_le hp
theorem of_keys {most : Int} {L : List (List Int)} (h : ∀ c ∈ L, ∀ y ∈ c, wfI y) : ∀ p ∈ of most L, wfI p.1 := by
  intro p hp
  obtain ⟨c, hc, hq⟩ := List.mem_filterMap.1 hp
  unfold Came.one at hq
  split at hq
  · rename_i k n h0 h1
    simp only [Option.some.injEq] at hq
    subst hq
    exact h c hc k (List.mem_of_getElem? h0)
  · cases hq
theorem sum_takeI {l : List Int} {k : Nat} {x : Int} (h : l[k]? = some x) : (l.take (k + 1)).sum = (l.take k).sum + x := by rw [List.take_add_one, h, Option.toList_some, sum_snoc]
end Tbl
open Tbl

set_option maxRecDepth 100000 in
set_option maxHeartbeats 1000000 in
theorem rowSum_any (a : Option Addr) (len cap : Nat) (l : List Int) (w : World) (h : Tab w a len cap 1 (l.map iC)) (h40 : len ≤ 40) (hz : ∀ x ∈ l, 0 ≤ x ∧ x ≤ 1000000000000) :
    Calls Try.prog 31 #[.slice a len cap] w fun e w' => e = .returned (.int .i64 l.sum) ∧ w' = w := by
  have hl := h.hlen
  rw [List.length_map] at hl
  have HT := Lib.hid h
  have HL := Lib.hid hl
  have HZ := Lib.hid hz
  clear h hl hz
  obtain ⟨A, hA⟩ : ∃ A, l.sum = A := ⟨_, rfl⟩
  rw [hA]
  have HA := Lib.hid hA
  clear hA
  go_enter Try.func31, Try.ntmps31
  go_wp2_with fail
  go_loopg [3, 8] len (fun g al i wr => ∃ (k : Nat) (S : Int), k + g = len ∧ i = .int .i64 k ∧ al = .int .i64 S ∧ 0 ≤ S ∧ S ≤ (k : Int) * 1000000000000 ∧ Hid (S = (l.take k).sum) ∧ wr = w)
  case atStart => exact ⟨0, 0, by omega, rfl, rfl, by omega, by omega, Lib.hid rfl, rfl⟩
  case round =>
    obtain ⟨k, S, hk0, rfl, rfl, hS0, hS1, HS, rfl⟩ := hrel
    have HJ := Lib.hid hk0
    have hk : k ≤ len := by omega
    clear hk0
    by_cases hlt : k < len
    · obtain ⟨x, hx⟩ : ∃ x, l[k]? = some x := ⟨_, List.getElem?_eq_getElem (by rw [HL.out]; exact hlt)⟩
      obtain ⟨b1, o1, ha, hbs, c0⟩ := HT.out.one (Below.refl _ _) (map_get hx)
      have HN := Lib.hid (sum_takeI hx)
      have bx := HZ.out x (List.mem_of_getElem? hx)
      have bx1 := bx.1
      have bx2 := bx.2
      subst ha
      clear hx bx
      go_wp2_with fail
      go_roundg (len - (k + 1))
      case measure => have := HJ.out; omega
      case rel => exact ⟨k + 1, S + x, by omega, by go_num, by go_num, by omega, by omega, Lib.hid (by rw [HN.out, HS.out]), rfl⟩
    · obtain rfl : k = len := by omega
      obtain rfl : S = A := by rw [HS.out, List.take_of_length_le (by rw [HL.out]; omega)]; exact HA.out
      go_wp2
      go_ret
      exact ⟨rfl, rfl⟩
end Go.Proofs.Ytcfejbhoeichnaa
