/- Counting the picks of a table, column by column and part by part. Mathematics alone. -/
import Derived.Test.YtfndahcihmpmhaaWalkerShare
namespace Go.Proofs.Ytfndahcihmpmhaa
namespace Walker

theorem addAt_zero {s : List Int} {i : Nat} (h : i < s.length) : addAt s i 0 = s := by
  unfold addAt
  rw [Int.add_zero, List.getD_eq_getElem?_getD, List.getElem?_eq_getElem h]
  exact List.set_getElem_self h
theorem addAt_twice {s : List Int} {i : Nat} (h : i < s.length) (x y : Int) : addAt (addAt s i x) i y = addAt s i (x + y) := by
  have h1 : (addAt s i x)[i]? = some (s.getD i 0 + x) := List.getElem?_set_self h
  rw [addAt_get y h1]
  unfold addAt
  rw [List.set_set, Int.add_assoc]
/-- the counts behind c columns and p parts of the next, whose own part is o and whose rest is r -/
def cnt (A : Int) (O R : List Int) (n c : Nat) (o : Int) (r p : Nat) : List Int := addAt (addAt (sharesTo A O R n c) c (min (p : Int) o)) r ((p : Int) - min (p : Int) o)
theorem cnt_len (A : Int) (O R : List Int) (n c : Nat) (o : Int) (r p : Nat) : (cnt A O R n c o r p).length = n := by unfold cnt; rw [addAt_len, addAt_len, sharesTo_len]
theorem cnt_start {A : Int} {O R : List Int} {n c : Nat} {o : Int} {r : Nat} (ho : 0 ≤ o) (hc : c < n) (hr : r < n) : cnt A O R n c o r 0 = sharesTo A O R n c := by
  unfold cnt
  rw [show min ((0 : Nat) : Int) o = 0 from by omega, addAt_zero (by rw [sharesTo_len]; exact hc), show ((0 : Nat) : Int) - 0 = 0 from rfl, addAt_zero (by rw [sharesTo_len]; exact hr)]
theorem cnt_end {A : Int} {O R : List Int} {n c : Nat} {o : Int} {r p : Nat} (hp : (p : Int) = A) (hoA : o ≤ A) (hO : O[c]? = some o) (hR : R[c]? = some (r : Int)) : cnt A O R n c o r p = sharesTo A O R n (c + 1) := by
  unfold cnt
  rw [sharesTo, List.getD_eq_getElem?_getD, List.getD_eq_getElem?_getD, hO, hR, hp, show min A o = o from by omega]
  rfl
theorem cnt_own {A : Int} {O R : List Int} {n c : Nat} {o : Int} {r p : Nat} (hc : c < n) (hr : r < n) (hp : (p : Int) < o) : addAt (cnt A O R n c o r p) c 1 = cnt A O R n c o r (p + 1) := by
  unfold cnt
  rw [show min (p : Int) o = p from by omega, show min ((p + 1 : Nat) : Int) o = (p : Int) + 1 from by omega, show (p : Int) - p = 0 from by omega, show ((p + 1 : Nat) : Int) - ((p : Int) + 1) = 0 from by omega,
    addAt_zero (by rw [addAt_len, sharesTo_len]; exact hr), addAt_zero (by rw [addAt_len, sharesTo_len]; exact hr), addAt_twice (by rw [sharesTo_len]; exact hc)]
theorem cnt_rest {A : Int} {O R : List Int} {n c : Nat} {o : Int} {r p : Nat} (hr : r < n) (hp : o ≤ (p : Int)) : addAt (cnt A O R n c o r p) r 1 = cnt A O R n c o r (p + 1) := by
  unfold cnt
  rw [show min (p : Int) o = o from by omega, show min ((p + 1 : Nat) : Int) o = o from by omega, addAt_twice (by rw [addAt_len, sharesTo_len]; exact hr)]
  congr 1
  omega
theorem cnt_bd {A : Int} {O R : List Int} {n c : Nat} {o : Int} {r p : Nat} (hA : A ≤ 40000000000000) (hO : ∀ (i : Nat) (o : Int), O[i]? = some o → 0 ≤ o ∧ o ≤ A) (hc : c ≤ O.length) (ho : 0 ≤ o) (hp : (p : Int) ≤ A) : ∀ y ∈ cnt A O R n c o r p, 0 ≤ y ∧ y ≤ (c : Int) * 80000000000000 + 80000000000000 := by
  intro y hy
  have := addAt_bd (addAt_bd (i := c) (sharesTo_bd hA hO (R := R) (n := n) c hc) (by omega) (x := min (p : Int) o) (X := 40000000000000) (by omega)) (by omega) (x := (p : Int) - min (p : Int) o) (X := 40000000000000) (by omega) y hy
  omega
end Walker
end Go.Proofs.Ytfndahcihmpmhaa
