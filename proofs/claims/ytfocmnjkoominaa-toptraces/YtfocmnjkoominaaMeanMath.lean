/- Over all random values of one remainder, estimates of lists told by a function of the place come, in the mean, to the total. Mathematics alone. -/
import Derived.Test.YtfocmnjkoominaaOwnSpot
namespace Go.Proofs.Ytfocmnjkoominaa
open Go.ChangeShapes Go.WideShapes Go.ChangeAt Go.RowKit
open Est Span

theorem rep_listTo (x : Int) : ∀ n : Nat, List.replicate n x = listTo (fun _ => x) n
  | 0 => rfl
  | n + 1 => by rw [List.replicate_succ', rep_listTo x n, listTo_succ]
theorem term_if (x n r : Int) : term x n r = (if thr n ≤ r then ((2 ^ n.toNat : Nat) : Int) else 0) * x := by
  unfold term
  split
  · rw [Int.mul_comm]
  · rw [Int.zero_mul]
theorem mean_one {x v low : Int} (h0 : 0 ≤ v) (h6 : v ≤ 6) (l0 : 0 ≤ low) (l1 : low < 1125899906842624) : sumTo (fun i => term x v ((i : Int) * 1125899906842624 + low)) 64 = 64 * x := by
  rw [sumTo_congr (fun i _ => term_if x v ((i : Int) * 1125899906842624 + low)), sumTo_mul, one_sum h0 h6 l0 l1]
theorem mean_all {f g : Nat → Int} {low : Int} (hg : ∀ i, 0 ≤ g i ∧ g i ≤ 6) (l0 : 0 ≤ low) (l1 : low < 1125899906842624) : ∀ n : Nat, sumTo (fun k => sumTo (fun i => term (f i) (g i) ((k : Int) * 1125899906842624 + low)) n) 64 = sumTo f n * 64
  | 0 => by
    rw [show (fun k : Nat => sumTo (fun i => term (f i) (g i) ((k : Int) * 1125899906842624 + low)) 0) = fun _ => 0 from rfl, sumTo_zero]
    rfl
  | n + 1 => by
    rw [sumTo_add (fun k => sumTo (fun i => term (f i) (g i) ((k : Int) * 1125899906842624 + low)) (n + 1)) (fun k => sumTo (fun i => term (f i) (g i) ((k : Int) * 1125899906842624 + low)) n) (fun k => term (f n) (g n) ((k : Int) * 1125899906842624 + low)) (fun k => rfl) 64, mean_all hg l0 l1 n, mean_one (hg n).1 (hg n).2 l0 l1, show sumTo f (n + 1) = sumTo f n + f n from rfl, Int.add_mul]
    omega
end Go.Proofs.Ytfocmnjkoominaa
