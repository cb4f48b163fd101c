/- Deals and reservoirs over all draws (cultop.TopPond): which sets they pick, pair by pair. Mathematics only. -/
import Derived.Test.YtoijeafhohcbdaaPondPut
import Derived.Test.YtoijeafhohcbdaaDigitMath
import Derived.Test.YtoijeafhohcbdaaCombMath
import Derived.Test.YtoijeafhohcbdaaIntCount
namespace Go.Proofs.Ytoijeafhohcbdaa
namespace TopPond
open Digit Binom

/-- draw j of round i: digit j of i, to the bases 1, 2, 3 .. -/
def dg (i j : Nat) : Nat := i / fact j % (j + 1)
def drawsT (n i : Nat) : List Int := (List.range n).map (fun j => (dg i j : Int))
/-- the reservoir's items after j numbers -/
def itemsT (k i : Nat) : Nat → List Int
  | 0 => []
  | j + 1 => pondL k (j : Int) (itemsT k i j) (j : Int) (dg i j)
/-- at most two numbers in rising order -/
def srt : List Int → List Int
  | [x, y] => if y < x then [y, x] else [x, y]
  | l => l
def nats (l : List Int) : List Nat := l.map Int.toNat
def dealt (k n i : Nat) : List Int := (dealTo (rowOf n) (drawsT n i) n).take k
def dealR (k n i : Nat) : Nat := rankFrom 0 (nats (srt (dealt k n i)))
def pondR (k n i : Nat) : Nat := rankFrom 0 (nats (srt (itemsT k i n)))
/-- all ranks counted in the first i rounds, the newest first -/
def seen (k n : Nat) : Nat → List Int
  | 0 => []
  | i + 1 => (pondR k n i : Int) :: (dealR k n i : Int) :: seen k n i
def upB (n : Nat) (l : List Int) : Bool := match l with
  | [x] => decide (0 ≤ x) && decide (x < n)
  | [x, y] => decide (0 ≤ x) && decide (x < y) && decide (y < n)
  | _ => false
def pairs : List (Nat × Nat) := [(1, 1), (1, 2), (1, 3), (1, 4), (2, 2), (2, 3), (2, 4)]
theorem pairs_all {k n : Nat} (h1 : 1 ≤ k) (h2 : k ≤ 2) (h3 : k ≤ n) (h4 : n ≤ 4) : (k, n) ∈ pairs := by
  have hk : k = 1 ∨ k = 2 := by omega
  have hn : n = 1 ∨ n = 2 ∨ n = 3 ∨ n = 4 := by omega
  rcases hk with rfl | rfl <;> rcases hn with rfl | rfl | rfl | rfl <;> first | decide | omega
def roundB (k n i : Nat) : Bool := upB n (srt (dealt k n i)) && (srt (dealt k n i)).length == k && upB n (srt (itemsT k i n)) && (srt (itemsT k i n)).length == k
def goodB (p : Nat × Nat) : Bool := (List.range (fact p.2)).all (fun i => roundB p.1 p.2 i) && kinds (seen p.1 p.2 (fact p.2)) == binom p.2 p.1 && (seen p.1 p.2 (fact p.2)).all (fun z => (seen p.1 p.2 (fact p.2)).count z * binom p.2 p.1 == 2 * fact p.2 && decide (z < (binom p.2 p.1 : Int)))
theorem good_all : pairs.all goodB = true := by decide +kernel
theorem good {k n : Nat} (h : (k, n) ∈ pairs) : goodB (k, n) = true := List.all_eq_true.1 good_all _ h
theorem round_ok {k n i : Nat} (h : (k, n) ∈ pairs) (hi : i < fact n) : roundB k n i = true := by
  have := good h
  unfold goodB at this
  simp only [Bool.and_eq_true] at this
  exact List.all_eq_true.1 this.1.1 i (List.mem_range.2 hi)
theorem kinds_ok {k n : Nat} (h : (k, n) ∈ pairs) : kinds (seen k n (fact n)) = binom n k := by
  have := good h
  unfold goodB at this
  simp only [Bool.and_eq_true] at this
  exact beq_iff_eq.1 this.1.2
theorem count_ok {k n : Nat} (h : (k, n) ∈ pairs) {z : Int} (hz : z ∈ seen k n (fact n)) : (seen k n (fact n)).count z * binom n k = 2 * fact n ∧ z < (binom n k : Int) := by
  have := good h
  unfold goodB at this
  simp only [Bool.and_eq_true] at this
  have := List.all_eq_true.1 this.2 z hz
  rw [Bool.and_eq_true, beq_iff_eq, decide_eq_true_eq] at this
  exact this
/-- a list that rises stands as the ranks' contract wants it -/
theorem up_nats {n : Nat} {l : List Int} (hn : n ≤ 30) (h : upB n l = true) : l = nn (nats l) ∧ (nats l).length ≤ 30 ∧ rising 30 (nats l) := by
  unfold upB at h
  split at h
  · rename_i x
    simp only [Bool.and_eq_true, decide_eq_true_eq] at h
    refine ⟨by simp [nn, nats]; omega, by simp [nats], ?_⟩
    rw [rising_iff]
    exact ⟨by simp [nats], by simp [nats]; omega⟩
  · rename_i x y
    simp only [Bool.and_eq_true, decide_eq_true_eq] at h
    refine ⟨by simp [nn, nats]; omega, by simp [nats], ?_⟩
    rw [rising_iff]
    exact ⟨by simp [nats]; omega, by simp [nats]; omega⟩
  · cases h
theorem dg_le (i j : Nat) : dg i j ≤ j := Nat.lt_succ_iff.1 (Nat.mod_lt (i / fact j) (Nat.succ_pos j))
theorem left_step (i j : Nat) : i / fact j / (j + 1) = i / fact (j + 1) := by
  rw [Nat.div_div_eq_div_mul, show fact (j + 1) = fact j * (j + 1) from by simp [fact, Nat.mul_comm]]
theorem draws_succ (n i : Nat) : drawsT (n + 1) i = drawsT n i ++ [(dg i n : Int)] := by simp [drawsT, List.range_succ]
theorem draws_len (n i : Nat) : (drawsT n i).length = n := by simp [drawsT]
theorem draws_get {n i j : Nat} (h : j < n) : (drawsT n i)[j]? = some (dg i j : Int) := by simp [drawsT, h]
theorem draws_ok (n i : Nat) : DrawsOk (drawsT n i) := by
  intro j x hx
  have hj : j < n := by have := (List.getElem?_eq_some_iff.1 hx).1; rw [draws_len] at this; exact this
  rw [draws_get hj, Option.some.injEq] at hx
  have := dg_le i j
  omega
end TopPond
end Go.Proofs.Ytoijeafhohcbdaa
