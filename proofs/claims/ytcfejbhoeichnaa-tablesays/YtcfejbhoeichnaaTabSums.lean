/- Count-min sketches: what the counters hold behind all that came. Mathematics alone. -/
import Derived.Test.YtcfejbhoeichnaaTabKeys
namespace Go.Proofs.Ytcfejbhoeichnaa
open Go.ChangeShapes Go.WideShapes Go.ChangeAt Go.RowKit
open Came
namespace Tbl

/-- how often a key of column j came, in row i -/
def cnt (s i j : Nat) : List (Int × Int) → Int
  | [] => 0
  | p :: C => (if colN s p.1 i = j then p.2 else 0) + cnt s i j C
theorem cnt_append (s i j : Nat) : ∀ C D : List (Int × Int), cnt s i j (C ++ D) = cnt s i j C + cnt s i j D
  | [], D => by simp [cnt]
  | p :: C, D => by
    rw [List.cons_append, cnt, cnt, cnt_append s i j C D, Int.add_assoc]
theorem allR_cons (s : Nat) (p : Int × Int) (C : List (Int × Int)) (R : List (List Int)) : allR s (p :: C) R = allR s C (putR s p.1 p.2 R) := by unfold allR; rw [List.foldl_cons]
theorem allR_nil (s : Nat) (R : List (List Int)) : allR s [] R = R := by unfold allR; rw [List.foldl_nil]
theorem cnt_cons (s i j : Nat) (p : Int × Int) (C : List (Int × Int)) : cnt s i j (p :: C) = (if colN s p.1 i = j then p.2 else 0) + cnt s i j C := by rw [cnt]
theorem cnt_nil (s i j : Nat) : cnt s i j [] = 0 := by rw [cnt]
theorem allR_get (s i : Nat) : ∀ (C : List (Int × Int)) (R : List (List Int)) (r : List Int), R[i]? = some r → (allR s C R)[i]? = some (r.mapIdx (fun j x => x + cnt s i j C))
  | [], R, r, h => by
    rw [allR_nil, h]
    refine congrArg some ?_
    apply List.ext_getElem?
    intro j
    rw [List.getElem?_mapIdx, cnt_nil]
    cases r[j]? with
    | none => rfl
    | some y => rw [Option.map_some, Int.add_zero]
  | p :: C, R, r, h => by
    rw [allR_cons, allR_get s i C _ _ (putR_get h)]
    refine congrArg some ?_
    obtain ⟨q, hq⟩ : ∃ q, colN s p.1 i = q := ⟨_, rfl⟩
    rw [hq]
    apply List.ext_getElem?
    intro j
    have hc : cnt s i j (p :: C) = (if q = j then p.2 else 0) + cnt s i j C := by rw [cnt_cons, hq]
    rw [List.getElem?_mapIdx, List.getElem?_mapIdx, List.getElem?_modify, hc]
    generalize cnt s i j C = d
    cases hr : r[j]? with
    | none => rfl
    | some y =>
      show some ((if q = j then y + p.2 else y) + d) = some (y + ((if q = j then p.2 else 0) + d))
      refine congrArg some ?_
      split <;> omega
theorem allR_none (s i : Nat) (C : List (Int × Int)) (R : List (List Int)) (h : R.length ≤ i) : (allR s C R)[i]? = none := List.getElem?_eq_none (by rw [allR_len]; exact h)
theorem all_comm (s : Nat) (C D : List (Int × Int)) (R : List (List Int)) : allR s (D ++ C) R = allR s (C ++ D) R := by
  apply List.ext_getElem?
  intro i
  by_cases hi : i < R.length
  · have hr : R[i]? = some (R[i]'hi) := List.getElem?_eq_getElem hi
    rw [allR_get s i _ _ _ hr, allR_get s i _ _ _ hr]
    refine congrArg some ?_
    apply List.ext_getElem?
    intro j
    rw [List.getElem?_mapIdx, List.getElem?_mapIdx, cnt_append, cnt_append, Int.add_comm (cnt s i j D)]
  · rw [allR_none _ _ _ _ (by omega), allR_none _ _ _ _ (by omega)]
theorem all_join (s m : Nat) (C D : List (Int × Int)) : joinR (allR s C (zeroR s m)) (allR s D (zeroR s m)) = allR s (C ++ D) (zeroR s m) := by
  apply List.ext_getElem?
  intro i
  by_cases hi : i < m
  · have hr : (zeroR s m)[i]? = some (List.replicate s 0) := by unfold zeroR; rw [List.getElem?_replicate, if_pos hi]
    rw [allR_get s i _ _ _ hr, joinR_get (allR_get s i C _ _ hr) (allR_get s i D _ _ hr)]
    refine congrArg some ?_
    apply List.ext_getElem?
    intro j
    by_cases hj : j < s
    · have hz : (List.replicate s (0 : Int))[j]? = some 0 := by rw [List.getElem?_replicate, if_pos hj]
      rw [addL_get (a := 0 + cnt s i j C) (b := 0 + cnt s i j D) (by rw [List.getElem?_mapIdx, hz]; rfl) (by rw [List.getElem?_mapIdx, hz]; rfl), List.getElem?_mapIdx, hz, Option.map_some, cnt_append]
      refine congrArg some ?_
      omega
    · rw [List.getElem?_eq_none (by rw [addL_len (by simp)]; simp; omega), List.getElem?_eq_none (by simp; omega)]
  · have hz : (zeroR s m).length ≤ i := by simp [zeroR]; omega
    rw [allR_none _ _ _ _ hz, List.getElem?_eq_none (by rw [joinR_len (by rw [allR_len, allR_len]), allR_len]; exact hz)]
theorem all_join2 (s m : Nat) (C D : List (Int × Int)) : joinR (allR s D (zeroR s m)) (allR s C (zeroR s m)) = allR s (C ++ D) (zeroR s m) := by rw [all_join, all_comm]
theorem good_fits {s : Nat} {R : List (List Int)} (h : GoodT s R) : tooE R = 0 := tooE_no (fun r hr x hx => outB_in (h.cnt r hr x hx).1 (h.cnt r hr x hx).2)
theorem zero_most (s m : Nat) : Most 0 (zeroR s m) := by
  intro r hr x hx
  rw [List.eq_of_mem_replicate hr] at hx
  rw [List.eq_of_mem_replicate hx]
  exact Int.le_refl _
theorem of_nonneg {most : Int} (hm : 1 ≤ most) (L : List (List Int)) : ∀ p ∈ of most L, 0 ≤ p.2 := fun p hp => by have := of_bd hm p hp; omega
theorem of_sum {most : Int} (hm : 1 ≤ most) (hm2 : most ≤ 1000) {L : List (List Int)} (hL : L.length ≤ 60) : sumN (of most L) ≤ 60000 := by
  have h := (sumN_bd (by omega : 0 ≤ most) (of_bd hm (L := L))).2
  have hl := of_len most L
  have : most * ((of most L).length : Int) ≤ 1000 * 60 := Int.mul_le_mul hm2 (by omega) (by omega) (by omega)
  omega
theorem all_zero_good {s m : Nat} (h1 : 1 ≤ s) (h2 : s ≤ 32) (h3 : 1 ≤ m) (h4 : m ≤ 4) {C : List (Int × Int)} (hp : ∀ p ∈ C, 0 ≤ p.2) (hS : sumN C ≤ 1000000000000) : GoodT s (allR s C (zeroR s m)) :=
  (all_good (zero_good h1 h2 h3 h4) (zero_most s m) hp (by rw [Int.zero_add]; exact hS)).1
end Tbl
open Tbl

theorem tjoin_fine (s : Nat) (a b : Option Addr) (len cap cap2 : Nat) (R Q : List (List Int)) (P P2 : Nat → Prop) (w : World) (hT : TTx w P a len cap R) (hT2 : TTx w P2 b len cap2 Q) (hG : GoodT s R) (hG2 : GoodT s Q) (h0 : tooE (joinR R Q) = 0) :
    Calls Try.prog 19 #[.agg #[.int .i64 s, .slice a len cap], .agg #[.int .i64 s, .slice b len cap2]] w fun e w' => ∃ (a' : Option Addr) (c' : Nat), e = .returned (.tuple #[.agg #[.int .i64 s, .slice a' len c'], .int .i64 0]) ∧ TTx w' (fun b => w.heap.size ≤ b) a' len c' (joinR R Q) ∧ Below w.heap.size w w' := by
  have hl := hT.len
  have hl2 := hT2.len
  refine (tjoin_ok s a b len cap cap2 R Q P P2 w hT hT2 hG hG2).mono ?_
  rintro e w' ⟨S, a', l', c', R', rfl, ⟨_, rfl, rfl⟩ | ⟨h, _⟩, htt, hb⟩
  · obtain rfl : len = l' := by have := htt.len; rw [joinR_len (by rw [hl, hl2]), hl] at this; exact this
    exact ⟨a', c', by rw [h0], htt, hb⟩
  · exact absurd h0 h
end Go.Proofs.Ytcfejbhoeichnaa
