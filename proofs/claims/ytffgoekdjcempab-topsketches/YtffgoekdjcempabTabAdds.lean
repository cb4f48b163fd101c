/- Count-min sketches: what the counters hold behind all that was put, or joined: between the true count and the total. Mathematics, and Put and Join where they fit. -/
import Derived.Test.YtffgoekdjcempabGr15
import Derived.Test.YtffgoekdjcempabTabMin
import Derived.Test.YtffgoekdjcempabCameSum
import Derived.Test.YtffgoekdjcempabGr18
namespace Go.Proofs.Ytffgoekdjcempab
open Go.ChangeShapes Go.WideShapes Go.ChangeAt Go.RowKit
open Tbl Came

namespace Tbl
/-- an empty sketch -/
def zeroR (s m : Nat) : List (List Int) := List.replicate m (List.replicate s 0)
theorem zero_good {s m : Nat} (h1 : 1 ≤ s) (h2 : s ≤ 32) (h3 : 1 ≤ m) (h4 : m ≤ 4) : GoodT s (zeroR s m) :=
  ⟨h1, h2, by simp [zeroR]; exact h3, by simp [zeroR]; exact h4, fun r hr => by rw [List.eq_of_mem_replicate hr]; simp, fun r hr x hx => by
    rw [List.eq_of_mem_replicate hr] at hx
    rw [List.eq_of_mem_replicate hx]
    omega⟩
/-- the rows behind all that came -/
def allR (s : Nat) (C : List (Int × Int)) (R : List (List Int)) : List (List Int) := C.foldl (fun R p => putR s p.1 p.2 R) R
theorem allR_snoc {s k : Nat} {C : List (Int × Int)} {R : List (List Int)} {p : Int × Int} (h : C[k]? = some p) : allR s (C.take (k + 1)) R = putR s p.1 p.2 (allR s (C.take k) R) := by
  unfold allR
  rw [List.take_add_one, h, Option.toList_some, List.foldl_append]
  rfl
theorem allR_append (s : Nat) (C D : List (Int × Int)) (R : List (List Int)) : allR s (C ++ D) R = allR s D (allR s C R) := by unfold allR; rw [List.foldl_append]
theorem allR_len (s : Nat) : ∀ (C : List (Int × Int)) (R : List (List Int)), (allR s C R).length = R.length
  | [], R => rfl
  | p :: C, R => (allR_len s C (putR s p.1 p.2 R)).trans (putR_len _ _ _ _)
/-- no counter is above M -/
def Most (M : Int) (R : List (List Int)) : Prop := ∀ r ∈ R, ∀ x ∈ r, x ≤ M
theorem put_most {s : Nat} {x n M : Int} {R : List (List Int)} (hn : 0 ≤ n) (h : Most M R) : Most (M + n) (putR s x n R) := by
  intro q hq z hz
  obtain ⟨i, hi⟩ := List.getElem?_of_mem hq
  have hil := (List.getElem?_eq_some_iff.1 hi).1
  rw [putR_len] at hil
  have hri : R[i]? = some (R[i]'hil) := List.getElem?_eq_getElem hil
  rw [putR_get hri, Option.some.injEq] at hi
  subst hi
  have hm := List.mem_of_getElem? hri
  rcases mem_modify hz with hz | ⟨y, hy, rfl⟩
  · have := h _ hm z hz
    omega
  · have := h _ hm y (List.mem_of_getElem? hy)
    omega
theorem put_fits {s : Nat} {x n M : Int} {R : List (List Int)} (hg : GoodT s R) (hn : 0 ≤ n) (h : Most M R) (hM : M + n ≤ 1000000000000) : tooE (putR s x n R) = 0 :=
  (put_too hn hg).2 (fun i r hr y hy => by
    have := h r (List.mem_of_getElem? hr) y (List.mem_of_getElem? hy)
    omega)
theorem all_good {s : Nat} {M : Int} : ∀ {C : List (Int × Int)} {R : List (List Int)}, GoodT s R → Most M R → (∀ p ∈ C, 0 ≤ p.2) → M + sumN C ≤ 1000000000000 → GoodT s (allR s C R) ∧ Most (M + sumN C) (allR s C R)
  | [], R, hg, hm, _, _ => ⟨hg, by show Most (M + 0) R; rw [Int.add_zero]; exact hm⟩
  | p :: C, R, hg, hm, hp, hM => by
    have e : sumN (p :: C) = p.2 + sumN C := by simp [sumN]
    have hp0 := hp p (by simp)
    have hC : 0 ≤ sumN C := by
      have : ∀ D : List (Int × Int), (∀ p ∈ D, 0 ≤ p.2) → 0 ≤ sumN D := by
        intro D
        induction D with
        | nil => intro _; simp [sumN]
        | cons q D ih =>
          intro hD
          have e2 : sumN (q :: D) = q.2 + sumN D := by simp [sumN]
          have h1 := hD q (by simp)
          have h2 := ih (fun r hr => hD r (by simp [hr]))
          omega
      exact this C (fun q hq => hp q (by simp [hq]))
    rw [e] at hM ⊢
    have h1 := put_fits (x := p.1) hg hp0 hm (by omega)
    have h2 := put_good hg h1
    have h3 := put_most (s := s) (x := p.1) hp0 hm
    have h4 := all_good (C := C) h2 h3 (fun q hq => hp q (by simp [hq])) (by omega)
    refine ⟨h4.1, ?_⟩
    rw [show M + (p.2 + sumN C) = M + p.2 + sumN C from by omega]
    exact h4.2
theorem sum_take {C : List (Int × Int)} (h : ∀ p ∈ C, 0 ≤ p.2) (k : Nat) : sumN (C.take k) ≤ sumN C := by
  have e : sumN C = sumN (C.take k) + sumN (C.drop k) := by rw [← sumN_append, List.take_append_drop]
  have : ∀ D : List (Int × Int), (∀ p ∈ D, 0 ≤ p.2) → 0 ≤ sumN D := by
    intro D
    induction D with
    | nil => intro _; simp [sumN]
    | cons q D ih =>
      intro hD
      have e2 : sumN (q :: D) = q.2 + sumN D := by simp [sumN]
      have h1 := hD q (by simp)
      have h2 := ih (fun r hr => hD r (by simp [hr]))
      omega
  have := this (C.drop k) (fun p hp => h p (List.mem_of_mem_drop hp))
  omega

/-- how often a key of column j came, in row i -/
def cnt (s i j : Nat) : List (Int × Int) → Int
  | [] => 0
  | p :: C => (if colN s p.1 i = j then p.2 else 0) + cnt s i j C
theorem cnt_append (s i j : Nat) : ∀ C D : List (Int × Int), cnt s i j (C ++ D) = cnt s i j C + cnt s i j D
  | [], D => by simp [cnt]
  | p :: C, D => by
    rw [List.cons_append, cnt, cnt, cnt_append s i j C D, Int.add_assoc]
theorem allR_cons (s : Nat) (p : Int × Int) (C : List (Int × Int)) (R : List (List Int)) : allR s (p :: C) R = allR s C (putR s p.1 p.2 R) := by unfold allR; rw [List.foldl_cons]
theorem allR_nil (s : Nat) (R : List (List Int)) : allR s [] R = R := by unfold allR; rw [List.foldl_nil]
theorem cnt_cons (s i j : Nat) (p : Int × Int) (C : List (Int × Int)) : cnt s i j (p :: C) = (if colN s p.1 i = j then p.2 else 0) + cnt s i j C := by rw [cnt]
theorem cnt_nil (s i j : Nat) : cnt s i j [] = 0 := by rw [cnt]
theorem allR_get (s i : Nat) : ∀ (C : List (Int × Int)) (R : List (List Int)) (r : List Int), R[i]? = some r → (allR s C R)[i]? = some (r.mapIdx (fun j x => x + cnt s i j C))
  | [], R, r, h => by
    rw [allR_nil, h]
    refine congrArg some ?_
    apply List.ext_getElem?
    intro j
    rw [List.getElem?_mapIdx, cnt_nil]
    cases r[j]? with
    | none => rfl
    | some y => rw [Option.map_some, Int.add_zero]
  | p :: C, R, r, h => by
    rw [allR_cons, allR_get s i C _ _ (putR_get h)]
    refine congrArg some ?_
    obtain ⟨q, hq⟩ : ∃ q, colN s p.1 i = q := ⟨_, rfl⟩
    rw [hq]
    apply List.ext_getElem?
    intro j
    have hc : cnt s i j (p :: C) = (if q = j then p.2 else 0) + cnt s i j C := by rw [cnt_cons, hq]
    rw [List.getElem?_mapIdx, List.getElem?_mapIdx, List.getElem?_modify, hc]
    generalize cnt s i j C = d
    cases hr : r[j]? with
    | none => rfl
    | some y =>
      show some ((if q = j then y + p.2 else y) + d) = some (y + ((if q = j then p.2 else 0) + d))
      refine congrArg some ?_
      split <;> omega
theorem allR_none (s i : Nat) (C : List (Int × Int)) (R : List (List Int)) (h : R.length ≤ i) : (allR s C R)[i]? = none := List.getElem?_eq_none (by rw [allR_len]; exact h)
theorem all_comm (s : Nat) (C D : List (Int × Int)) (R : List (List Int)) : allR s (D ++ C) R = allR s (C ++ D) R := by
  apply List.ext_getElem?
  intro i
  by_cases hi : i < R.length
  · have hr : R[i]? = some (R[i]'hi) := List.getElem?_eq_getElem hi
    rw [allR_get s i _ _ _ hr, allR_get s i _ _ _ hr]
    refine congrArg some ?_
    apply List.ext_getElem?
    intro j
    rw [List.getElem?_mapIdx, List.getElem?_mapIdx, cnt_append, cnt_append, Int.add_comm (cnt s i j D)]
  · rw [allR_none _ _ _ _ (by omega), allR_none _ _ _ _ (by omega)]
theorem all_join (s m : Nat) (C D : List (Int × Int)) : joinR (allR s C (zeroR s m)) (allR s D (zeroR s m)) = allR s (C ++ D) (zeroR s m) := by
  apply List.ext_getElem?
  intro i
  by_cases hi : i < m
  · have hr : (zeroR s m)[i]? = some (List.replicate s 0) := by unfold zeroR; rw [List.getElem?_replicate, if_pos hi]
    rw [allR_get s i _ _ _ hr, joinR_get (allR_get s i C _ _ hr) (allR_get s i D _ _ hr)]
    refine congrArg some ?_
    apply List.ext_getElem?
    intro j
    by_cases hj : j < s
    · have hz : (List.replicate s (0 : Int))[j]? = some 0 := by rw [List.getElem?_replicate, if_pos hj]
      rw [addL_get (a := 0 + cnt s i j C) (b := 0 + cnt s i j D) (by rw [List.getElem?_mapIdx, hz]; rfl) (by rw [List.getElem?_mapIdx, hz]; rfl), List.getElem?_mapIdx, hz, Option.map_some, cnt_append]
      refine congrArg some ?_
      omega
    · rw [List.getElem?_eq_none (by rw [addL_len (by simp)]; simp; omega), List.getElem?_eq_none (by simp; omega)]
  · have hz : (zeroR s m).length ≤ i := by simp [zeroR]; omega
    rw [allR_none _ _ _ _ hz, List.getElem?_eq_none (by rw [joinR_len (by rw [allR_len, allR_len]), allR_len]; exact hz)]
theorem all_join2 (s m : Nat) (C D : List (Int × Int)) : joinR (allR s D (zeroR s m)) (allR s C (zeroR s m)) = allR s (C ++ D) (zeroR s m) := by rw [all_join, all_comm]
theorem good_fits {s : Nat} {R : List (List Int)} (h : GoodT s R) : tooE R = 0 := tooE_no (fun r hr x hx => outB_in (h.cnt r hr x hx).1 (h.cnt r hr x hx).2)
theorem zero_most (s m : Nat) : Most 0 (zeroR s m) := by
  intro r hr x hx
  rw [List.eq_of_mem_replicate hr] at hx
  rw [List.eq_of_mem_replicate hx]
  exact Int.le_refl _
theorem all_zero_good {s m : Nat} (h1 : 1 ≤ s) (h2 : s ≤ 32) (h3 : 1 ≤ m) (h4 : m ≤ 4) {C : List (Int × Int)} (hp : ∀ p ∈ C, 0 ≤ p.2) (hS : sumN C ≤ 1000000000000) : GoodT s (allR s C (zeroR s m)) :=
  (all_good (zero_good h1 h2 h3 h4) (zero_most s m) hp (by rw [Int.zero_add]; exact hS)).1

theorem cnt_bd {s i j : Nat} : ∀ {C : List (Int × Int)}, (∀ p ∈ C, 0 ≤ p.2) → 0 ≤ cnt s i j C ∧ cnt s i j C ≤ sumN C
  | [], _ => by simp [cnt, sumN]
  | p :: C, h => by
    have h1 := h p (by simp)
    have h2 := cnt_bd (s := s) (i := i) (j := j) (C := C) (fun q hq => h q (by simp [hq]))
    have e : sumN (p :: C) = p.2 + sumN C := by simp [sumN]
    rw [cnt_cons, e]
    split <;> omega
theorem oft_le {s i : Nat} {k : Int} : ∀ {C : List (Int × Int)}, (∀ p ∈ C, 0 ≤ p.2) → oft k C ≤ cnt s i (colN s k i) C
  | [], _ => by simp [cnt, oft]
  | p :: C, h => by
    have h1 := h p (by simp)
    have h2 := oft_le (s := s) (i := i) (k := k) (C := C) (fun q hq => h q (by simp [hq]))
    rw [cnt_cons, oft]
    by_cases hk : p.1 = k
    · rw [if_pos hk, if_pos (by rw [hk])]; omega
    · rw [if_neg hk]
      split <;> omega
theorem sum_snoc (l : List Int) (x : Int) : (l ++ [x]).sum = l.sum + x := by simp
theorem sum_add (f g : Nat → Int) : ∀ n : Nat, ((List.range n).map (fun j => f j + g j)).sum = ((List.range n).map f).sum + ((List.range n).map g).sum
  | 0 => by simp
  | n + 1 => by
    rw [List.range_succ, List.map_append, List.map_append, List.map_append, List.map_singleton, List.map_singleton, List.map_singleton, sum_snoc, sum_snoc, sum_snoc, sum_add f g n]
    omega
theorem sum_one (q : Nat) (v : Int) : ∀ n : Nat, ((List.range n).map (fun j => if q = j then v else 0)).sum = if q < n then v else 0
  | 0 => by simp
  | n + 1 => by
    rw [List.range_succ, List.map_append, List.map_singleton, sum_snoc, sum_one q v n]
    by_cases h : q = n
    · rw [if_pos h, if_neg (by omega), if_pos (by omega)]; omega
    · rw [if_neg h, Int.add_zero]
      by_cases h2 : q < n
      · rw [if_pos h2, if_pos (by omega)]
      · rw [if_neg h2, if_neg (by omega)]
theorem cnt_sum {s i : Nat} (h1 : 1 ≤ s) : ∀ C : List (Int × Int), ((List.range s).map (fun j => cnt s i j C)).sum = sumN C
  | [] => by
    have : ∀ n : Nat, ((List.range n).map (fun j => cnt s i j [])).sum = 0 := by
      intro n
      induction n with
      | zero => simp
      | succ n ih => rw [List.range_succ, List.map_append, List.map_singleton, sum_snoc, ih, cnt_nil]; rfl
    rw [this]; simp [sumN]
  | p :: C => by
    have e : sumN (p :: C) = p.2 + sumN C := by simp [sumN]
    have hf : (fun j => cnt s i j (p :: C)) = (fun j => (if colN s p.1 i = j then p.2 else 0) + cnt s i j C) := by funext j; rw [cnt_cons]
    rw [hf, sum_add, cnt_sum h1 C, sum_one, if_pos (colN_lt h1), e]
theorem row_is (s i : Nat) (C : List (Int × Int)) : (List.replicate s (0 : Int)).mapIdx (fun j x => x + cnt s i j C) = (List.range s).map (fun j => cnt s i j C) := by
  apply List.ext_getElem?
  intro j
  rw [List.getElem?_mapIdx, List.getElem?_map]
  by_cases hj : j < s
  · rw [List.getElem?_replicate, if_pos hj, List.getElem?_range hj, Option.map_some, Option.map_some, Int.zero_add]
  · rw [List.getElem?_replicate, if_neg hj, List.getElem?_eq_none (by rw [List.length_range]; omega)]; rfl
theorem all_row {s m i : Nat} {C : List (Int × Int)} {r : List Int} (h : (allR s C (zeroR s m))[i]? = some r) : r = (List.range s).map (fun j => cnt s i j C) := by
  have hi : i < m := by have := (List.getElem?_eq_some_iff.1 h).1; rw [allR_len] at this; simpa [zeroR] using this
  have hr : (zeroR s m)[i]? = some (List.replicate s 0) := by unfold zeroR; rw [List.getElem?_replicate, if_pos hi]
  rw [allR_get s i C _ _ hr, Option.some.injEq] at h
  rw [← h, row_is]
theorem all_sum {s m i : Nat} {C : List (Int × Int)} {r : List Int} (h1 : 1 ≤ s) (h : (allR s C (zeroR s m))[i]? = some r) : r.sum = sumN C := by rw [all_row h, cnt_sum h1]
theorem all_at {s m i : Nat} {C : List (Int × Int)} {r : List Int} {k : Int} (h1 : 1 ≤ s) (h : (allR s C (zeroR s m))[i]? = some r) : atR s k i r = cnt s i (colN s k i) C := by
  rw [all_row h]
  refine atR_is ?_
  rw [List.getElem?_map, List.getElem?_range (colN_lt h1)]
  rfl
theorem ask_all {s m : Nat} {C : List (Int × Int)} {k : Int} (h1 : 1 ≤ s) (h3 : 1 ≤ m) (hp : ∀ p ∈ C, 0 ≤ p.2) (hS : sumN C ≤ 60000) : oft k C ≤ askR s k (allR s C (zeroR s m)) ∧ askR s k (allR s C (zeroR s m)) ≤ sumN C := by
  have hl : (allR s C (zeroR s m)).length = m := by rw [allR_len]; simp [zeroR]
  obtain ⟨r0, hr0⟩ : ∃ r, (allR s C (zeroR s m))[0]? = some r := ⟨_, List.getElem?_eq_getElem (by rw [hl]; omega)⟩
  have k0 := ask_le (s := s) (x := k) hr0
  rw [all_at h1 hr0] at k0
  have k1 := (cnt_bd (s := s) (i := 0) (j := colN s k 0) hp).2
  refine ⟨?_, by omega⟩
  rcases ask_is s k (allR s C (zeroR s m)) with h | ⟨i, r, hr, h⟩
  · omega
  · rw [h, all_at h1 hr]
    exact oft_le hp
theorem sum_takeI {l : List Int} {k : Nat} {x : Int} (h : l[k]? = some x) : (l.take (k + 1)).sum = (l.take k).sum + x := by rw [List.take_add_one, h, Option.toList_some, sum_snoc]
end Tbl
open Tbl

theorem tput_fine (s : Nat) (x n : Int) (a : Option Addr) (len cap : Nat) (R : List (List Int)) (P : Nat → Prop) (w : World) (hT : TTx w P a len cap R) (hG : GoodT s R) (hn1 : 0 ≤ n) (hn2 : n ≤ 1000000000000) (h0 : tooE (putR s x n R) = 0) :
    Calls Try.prog 12 #[.agg #[.int .i64 s, .slice a len cap], .int .i64 x, .int .i64 n] w fun e w' => ∃ (a' : Option Addr) (c' : Nat), e = .returned (.tuple #[.agg #[.int .i64 s, .slice a' len c'], .int .i64 0]) ∧ TTx w' (fun b => w.heap.size ≤ b) a' len c' (putR s x n R) ∧ Below w.heap.size w w' := by
  have hl := hT.len
  refine (tput_ok s x n a len cap R P w hT hG hn1 hn2).mono ?_
  rintro e w' ⟨S, a', l', c', R', rfl, ⟨_, rfl, rfl⟩ | ⟨h, _⟩, htt, hb⟩
  · obtain rfl : len = l' := by have := htt.len; rw [putR_len, hl] at this; exact this
    exact ⟨a', c', by rw [h0], htt, hb⟩
  · exact absurd h0 h

theorem tjoin_fine (s : Nat) (a b : Option Addr) (len cap cap2 : Nat) (R Q : List (List Int)) (P P2 : Nat → Prop) (w : World) (hT : TTx w P a len cap R) (hT2 : TTx w P2 b len cap2 Q) (hG : GoodT s R) (hG2 : GoodT s Q) (h0 : tooE (joinR R Q) = 0) :
    Calls Try.prog 13 #[.agg #[.int .i64 s, .slice a len cap], .agg #[.int .i64 s, .slice b len cap2]] w fun e w' => ∃ (a' : Option Addr) (c' : Nat), e = .returned (.tuple #[.agg #[.int .i64 s, .slice a' len c'], .int .i64 0]) ∧ TTx w' (fun b => w.heap.size ≤ b) a' len c' (joinR R Q) ∧ Below w.heap.size w w' := by
  have hl := hT.len
  have hl2 := hT2.len
  refine (tjoin_ok s a b len cap cap2 R Q P P2 w hT hT2 hG hG2).mono ?_
  rintro e w' ⟨S, a', l', c', R', rfl, ⟨_, rfl, rfl⟩ | ⟨h, _⟩, htt, hb⟩
  · obtain rfl : len = l' := by have := htt.len; rw [joinR_len (by rw [hl, hl2]), hl] at this; exact this
    exact ⟨a', c', by rw [h0], htt, hb⟩
  · exact absurd h0 h
end Go.Proofs.Ytffgoekdjcempab
