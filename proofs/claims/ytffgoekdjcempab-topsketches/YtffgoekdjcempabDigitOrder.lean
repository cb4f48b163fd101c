/- The contracts of the program's digit.row and digit.Order. -/
import Derived.Test.YtffgoekdjcempabGr1
import Derived.Test.YtffgoekdjcempabDigitCheck
import Derived.Test.YtffgoekdjcempabDeleteInts
import Derived.Test.YtffgoekdjcempabGr6
namespace Go.Proofs.Ytffgoekdjcempab
open Go.ChangeShapes Go.WideShapes Go.ChangeAt Go.RowKit
open Digit

theorem set_row {k n : Nat} (h : k < n) : (rowOf k ++ List.replicate (n - k) (0 : Int)).set k (k : Int) = rowOf (k + 1) ++ List.replicate (n - (k + 1)) 0 := by
  rw [List.set_append_right _ _ (by rw [rowOf_len]; omega), rowOf_len, Nat.sub_self, rowOf_succ, show n - k = n - (k + 1) + 1 from by omega, List.replicate_succ, List.set_cons_zero, List.append_assoc]
  rfl
set_option maxRecDepth 100000 in
set_option maxHeartbeats 1000000 in
theorem row_any (n : Nat) (hn : n ≤ 12) (w : World) :
    Calls Try.prog 79 #[.int .i64 n] w fun e w' => e = .returned (.slice (some ⟨w.heap.size, 0, none⟩) n n) ∧ Own w' w.heap.size 3 1 (.slice (some ⟨w.heap.size, 0, none⟩) n n) ((rowOf n).map iC) ∧ Below w.heap.size w w' ∧ w.heap.size < w'.heap.size := by
  obtain ⟨i0, hi, hz0, hz1, hz2⟩ := info_parts info_int
  go_enter Try.func79, Try.ntmps79
  go_wp2_with (first | (at_make; refine wpList_make_full _ rfl _ _ 53 rfl w.heap.size 3 i0 (.int .i64 0) 1 Try.underlying53 hi hz0 hz1 _ _ _ _ n rfl rfl rfl rfl (by rw [hz2]; omega) (by unfold maxLen; omega) (Nat.le_refl _) ?_; intro w1 hO1 hg1))
  have hO : Own w1 w.heap.size 3 1 (.slice (some ⟨w.heap.size, 0, none⟩) n n) ((rowOf 0 ++ List.replicate (n - 0) 0).map iC) := Own.full hO1 (made_ints n)
  have hb : Below w.heap.size w w1 := (Below.refl _ _).grown hg1 (Nat.le_refl _) (fun j hj => by cases hj)
  have HO := Lib.hid hO
  clear hO hO1 hg1 hi hz0 hz1 hz2
  go_loopg [9] n (fun g i wr => ∃ k : Nat, k + g = n ∧ i = .int .i64 (k : Nat) ∧ Hid (Own wr w.heap.size 3 1 (.slice (some ⟨w.heap.size, 0, none⟩) n n) ((rowOf k ++ List.replicate (n - k) 0).map iC)) ∧ Below w.heap.size w wr)
  case atStart => exact ⟨0, by omega, rfl, HO, hb⟩
  case round =>
    clear hb HO
    obtain ⟨k, hk0, rfl, HO, hb⟩ := hrel
    have HJ := Lib.hid hk0
    have hk : k ≤ n := by omega
    clear hk0
    by_cases hlt : k < n
    · obtain ⟨y, hy⟩ : ∃ y, (rowOf k ++ List.replicate (n - k) (0 : Int))[k]? = some y := ⟨_, List.getElem?_eq_getElem (by rw [List.length_append, rowOf_len]; simp; omega)⟩
      obtain ⟨c1, f1, g1, g2⟩ := HO.out.at1 (map_get hy)
      have HS := Lib.hid (HO.out.set1 (map_get hy) (.int .i64 (k : Nat)))
      clear hy
      go_wp2
      go_roundg (n - (k + 1))
      case measure => have := HJ.out; omega
      case rel =>
        refine ⟨k + 1, by omega, by go_num, ?_, hb.setCell (Nat.le_refl _) _⟩
        have := HS.out
        rw [← show iC ((k : Nat) : Int) = [Value.int .i64 ((k : Nat) : Int)] from rfl, ← List.map_set, set_row hlt] at this
        exact this
    · obtain rfl : k = n := by omega
      have hO := HO.out
      rw [Nat.sub_self, List.replicate_zero, List.append_nil] at hO
      have hlt2 : w.heap.size < wr.heap.size := by
        rcases hO.own.2 with ⟨h0, _⟩ | ⟨g', cap', cur, h0, hg, hcur, _⟩
        · cases h0
        · simp only [Value.slice.injEq, Option.some.injEq, Addr.mk.injEq, and_true] at h0
          obtain ⟨rfl, _, _⟩ := h0
          exact (Array.getElem?_eq_some_iff.1 hcur).1
      have HO2 := Lib.hid hO
      clear hO HO
      go_wp2
      go_ret
      exact ⟨rfl, HO2.out, hb, hlt2⟩

theorem own_block {w : World} {base : Nat} {e : TypeId} {k : Nat} {v : Value} {R : List (List Value)} {g : Nat} (h : Own w base e k v R) (hg : g < base) : v.ownBlock = none ∨ v.ownBlock ≠ some g := by
  cases hv : v.ownBlock with
  | none => exact Or.inl rfl
  | some j => exact Or.inr (fun e => by have := (h.own.lt j hv).1; simp at e; omega)
theorem own_block' {w : World} {base : Nat} {e : TypeId} {k : Nat} {v : Value} {R : List (List Value)} {g n cap : Nat} (h : Own w base e k v R) (hg : g < base) : (Value.slice (some ⟨g, 0, none⟩) n cap).ownBlock = none ∨ (Value.slice (some ⟨g, 0, none⟩) n cap).ownBlock ≠ v.ownBlock := by
  right
  intro e
  have := (h.own.lt g e.symm).1
  omega
set_option maxRecDepth 100000 in
set_option maxHeartbeats 2000000 in
theorem order_ok (n r : Nat) (hn : n ≤ 12) (hr : r < fact n) (w : World) :
    Calls Try.prog 60 #[.int .i64 n, .int .i64 r] w fun e w' => ∃ v, e = .returned (.tuple #[v, .int .i64 0]) ∧ Own w' w.heap.size 3 1 v ((orderOf n r).map iC) ∧ Below w.heap.size w w' := by
  obtain ⟨i0, hi, hz0, hz1, hz2⟩ := info_parts info_int
  have C1 := Lib.hid (factorial_any n hn)
  have C2 := Lib.hid (row_any n hn)
  have hmx := fact_max hn
  have HR := Lib.hid (And.intro hr (show orderOf n r = [] ++ orderN n (rowOf n) r from rfl))
  generalize hF : fact n = F at *
  have HF := Lib.hid hF
  clear hF
  go_enter Try.func60, Try.ntmps60
  go_wp2_with fail
  refine (C1.out _).mono ?_
  rintro e w1 ⟨rfl, rfl⟩
  go_wp2_with fail
  refine (C2.out _).mono ?_
  rintro e w1 ⟨rfl, hO1, hb1, hs1⟩
  clear C1 C2
  go_wp2_with (first | (at_make; refine wpList_make_own _ rfl _ _ 53 rfl w1.heap.size 3 i0 (.int .i64 0) 1 Try.underlying53 hi hz0 hz1 _ _ _ n rfl rfl rfl (by rw [hz2]; omega) (by unfold maxLen; omega) (Nat.le_refl _) ?_; intro w3 hO3 hg3))
  generalize hN : w.heap.size = N at *
  have HN := Lib.hid hN
  have HO := Lib.hid (hO1.kept_by (row := none) hg3 (Or.inr (by simp [Value.ownBlock])))
  have HO3 := Lib.hid (Own.made hO3)
  have hb3 : Below N w w3 := hb1.grown hg3 (by omega) (fun j hj => by cases hj)
  have hsz3 : w1.heap.size ≤ w3.heap.size := hg3.size
  clear hO1 hO3 hg3 hi hz0 hz1 hz2 hb1 hN
  go_loopg [1, 6, 7, 8] n (fun g rr al lf v wr => ∃ (M A q : Nat) (L D : List Int), Hid (M = g) ∧ M ≤ n ∧ A ≤ 479001600 ∧ q < A ∧ D.length ≤ 12 ∧ rr = .int .i64 (q : Nat) ∧ al = .int .i64 (A : Nat) ∧ lf = .slice (some ⟨N, 0, none⟩) M n ∧ w1.heap.size ≤ wr.heap.size ∧
      Hid (A = fact M ∧ D.length + M = n ∧ orderOf n r = D ++ orderN M L q ∧ Own wr N 3 1 (.slice (some ⟨N, 0, none⟩) M n) (L.map iC)) ∧ Hid (Own wr w1.heap.size 3 1 v (D.map iC)) ∧ Below N w wr)
  case atStart => exact ⟨n, F, r, rowOf n, [], Lib.hid rfl, Nat.le_refl _, hmx, HR.out.1, by simp, rfl, rfl, rfl, hsz3, Lib.hid ⟨HF.out.symm, by simp, HR.out.2, HO.out⟩, HO3, hb3⟩
  case round =>
    clear hb3 HO HO3
    obtain ⟨M, A, q, L, D, HM, hM, hA, hq, hD, rfl, rfl, rfl, hsz, HH, HV, hb⟩ := hrel
    by_cases h0 : 0 < M
    · obtain ⟨f1, f2, f3, hOL⟩ := HH.out
      obtain ⟨P, rfl⟩ : ∃ P, M = P + 1 := ⟨M - 1, by omega⟩
      have hLl : L.length = P + 1 := by
        have := hOL.tab_of.hlen
        rwa [List.length_map] at this
      have hfp := fact_pos P
      have hAe : A = (P + 1) * fact P := f1
      have hfm : fact P ≤ 479001600 := fact_max (by omega)
      have hqd := div_lt (n := P) (r := q) (by rw [← f1]; exact hq)
      have hqm := Nat.mod_lt q hfp
      have e1 : ((A : Nat) : Int).tdiv ((P + 1 : Nat) : Int) = ((fact P : Nat) : Int) := by
        rw [hAe, Int.natCast_mul]; exact Int.mul_tdiv_cancel_left _ (by omega)
      have e2 : ((q : Nat) : Int).tdiv ((fact P : Nat) : Int) = ((q / fact P : Nat) : Int) := rfl
      have e3 : ((q : Nat) : Int).tmod ((fact P : Nat) : Int) = ((q % fact P : Nat) : Int) := rfl
      have f3' : orderOf n r = (D ++ [(L[q / fact P]?).getD 0]) ++ orderN P (L.eraseIdx (q / fact P)) (q % fact P) := by
        rw [f3, orderN, List.append_assoc]; rfl
      generalize hQ : q / fact P = Q at *
      generalize hT : q % fact P = T at *
      generalize hG : fact P = G at *
      have HX := Lib.hid (And.intro f3' (And.intro hG f2))
      clear f1 f2 f3 f3' hAe hQ hT hG HH
      obtain ⟨x, hx⟩ : ∃ x, L[Q]? = some x := ⟨_, List.getElem?_eq_getElem (by omega)⟩
      obtain ⟨c1, _, _, _⟩ := hOL.at1 (map_get hx)
      have HXx := Lib.hid hx
      have HOL := Lib.hid hOL
      have hOD := HV.out
      have hDl : (D.map iC).length ≤ 12 := by rw [List.length_map]; exact hD
      clear hx hOL
      generalize hPP : P + 1 = PP at *
      have HPP := Lib.hid hPP
      clear hPP
      go_wp2_with (first | (at_builtin; refine wpList_append_rows _ rfl _ _ 53 rfl w1.heap.size 3 _ 1 8 Try.underlying53 info_int rfl (by decide) _ (D.map iC) rfl (hOD.alloc _) ⟨wr.heap.size, 0, none⟩ 1 1 [[.int .i64 x]] rfl rfl (by simp) (one_row _ _ _ _ (by simp)) (by simp [Value.oneCell']) (by omega) (by decide) (by simp; omega) ?_; intro v' w4 hO4 hg4))
      have hg5 : (wr.alloc (.cells #[.int .i64 x] 3)).grownBy w4 u8.ownBlock := hg4
      have hN1 : N ≤ wr.heap.size := by omega
      have hOL4 := (HOL.out.alloc (.cells #[.int .i64 x] 3)).kept_by hg5 (own_block' hOD hs1)
      have hb4 : Below N w w4 := (hOD.alloc _).under (hb.alloc hN1 _) (by omega) (by simp; omega) hg5
      have hsz4 : wr.heap.size ≤ w4.heap.size := by have := hg5.size; simp at this; omega
      have e5 : D.map iC ++ [[Value.int .i64 x]] = (D ++ [x]).map iC := by rw [List.map_append]; rfl
      rw [e5] at hO4
      have HO4 := Lib.hid hO4
      have D5 := Lib.hid (delete_own hOL4 hqd)
      clear hg4 hg5 hOL4 hO4 e5 hOD
      refine D5.out.mono ?_
      rintro e w5 ⟨rfl, hO5, hg5⟩
      have HV5 := Lib.hid (HO4.out.kept_by hg5 (own_block HO4.out hs1))
      have HO5 := Lib.hid hO5
      have hb5 : Below N w w5 := hb4.grown hg5 (by omega) (fun j hj => by simp at hj; omega)
      have hsz5 : w4.heap.size ≤ w5.heap.size := hg5.size
      clear hO5 hg5 HO4 hb4 D5
      go_wp2
      go_roundg (PP - 1)
      case measure => have := HM.out; omega
      case rel =>
        have hPe : PP - 1 = P := by have := HPP.out; omega
        have hXe : (L[Q]?).getD 0 = x := by rw [HXx.out]; rfl
        have hlen := HX.out.2.2
        refine ⟨PP - 1, G, T, L.eraseIdx Q, D ++ [x], Lib.hid rfl, by omega, hfm, hqm, by rw [List.length_append]; simp; omega, rfl, rfl, rfl, by omega, Lib.hid ⟨by rw [hPe]; exact HX.out.2.1.symm, by rw [List.length_append]; simp; omega, by rw [hPe, ← hXe]; exact HX.out.1, HO5.out⟩, HV5, hb5⟩
    · obtain rfl : M = 0 := by omega
      have e1 : orderOf n r = D := by rw [HH.out.2.2.1, orderN, List.append_nil]
      have HE := Lib.hid e1
      clear e1 HH
      have t0 : decide (0 < ((0 : Nat) : Int)) = false := by simp
      go_wp2
      go_ret2
      exact ⟨_, rfl, by rw [HE.out, HN.out]; exact HV.out.base_le (by omega), by rw [HN.out]; exact hb⟩
set_option maxRecDepth 100000 in
set_option maxHeartbeats 1000000 in
theorem order_bad (n r : Int) (h : n < 0 ∨ 12 < n) (w : World) :
    Calls Try.prog 60 #[.int .i64 n, .int .i64 r] w fun e w' => e = .returned (.tuple #[.slice none 0 0, .int .i64 1]) ∧ w = w' := by
  by_cases h1 : n < 0
  · clear h
    go_enter Try.func60, Try.ntmps60
    go_wp2
    go_ret2
    exact ⟨rfl, rfl⟩
  · have h2 : 12 < n := by omega
    clear h
    go_enter Try.func60, Try.ntmps60
    go_wp2
    go_ret2
    exact ⟨rfl, rfl⟩
set_option maxRecDepth 100000 in
set_option maxHeartbeats 1000000 in
theorem order_none (n : Nat) (r : Int) (hn : n ≤ 12) (h : r < 0 ∨ (fact n : Int) ≤ r) (w : World) :
    Calls Try.prog 60 #[.int .i64 n, .int .i64 r] w fun e w' => e = .returned (.tuple #[.slice none 0 0, .int .i64 4]) ∧ w = w' := by
  have C := Lib.hid (factorial_any n hn)
  by_cases h1 : r < 0
  · clear h
    generalize fact n = B at *
    go_enter Try.func60, Try.ntmps60
    go_wp2_with fail
    refine (C.out _).mono ?_
    rintro e w1 ⟨rfl, rfl⟩
    go_wp2
    go_ret2
    exact ⟨rfl, rfl⟩
  · have h2 : (fact n : Int) ≤ r := by omega
    clear h
    generalize fact n = B at *
    go_enter Try.func60, Try.ntmps60
    go_wp2_with fail
    refine (C.out _).mono ?_
    rintro e w1 ⟨rfl, rfl⟩
    go_wp2
    go_ret2
    exact ⟨rfl, rfl⟩
/-- Order at every n and rank -/
theorem order_any (n r : Int) (w : World) :
    Calls Try.prog 60 #[.int .i64 n, .int .i64 r] w fun e w' => ∃ v, e = .returned (.tuple #[v, .int .i64 (orderP n r).2]) ∧ Own w' w.heap.size 3 1 v ((orderP n r).1.map iC) ∧ Below w.heap.size w w' := by
  unfold orderP
  split
  · exact (order_bad n r (by assumption) w).mono fun e w' ⟨h1, h2⟩ => ⟨_, h1, Own.nil _ _ _ _, h2 ▸ Below.refl _ _⟩
  · obtain ⟨n, rfl⟩ := Int.eq_ofNat_of_zero_le (show 0 ≤ n by omega)
    rw [Int.toNat_natCast]
    split
    · exact (order_none n r (by omega) (by assumption) w).mono fun e w' ⟨h1, h2⟩ => ⟨_, h1, Own.nil _ _ _ _, h2 ▸ Below.refl _ _⟩
    · obtain ⟨r, rfl⟩ := Int.eq_ofNat_of_zero_le (show 0 ≤ r by omega)
      rw [Int.toNat_natCast]
      exact order_ok n r (by omega) (by omega) w

end Go.Proofs.Ytffgoekdjcempab
