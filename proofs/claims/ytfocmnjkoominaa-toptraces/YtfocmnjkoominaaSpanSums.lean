/- Over all random values of one remainder, the kept spans stand for every span as often as there are such values. Mathematics alone. -/
import Derived.Test.YtfocmnjkoominaaSpanMath
namespace Go.Proofs.Ytfocmnjkoominaa
namespace Span

def sumTo (f : Nat → Int) : Nat → Int
  | 0 => 0
  | m + 1 => sumTo f m + f m
theorem sumTo_add (f g h : Nat → Int) (e : ∀ i, f i = g i + h i) : ∀ m, sumTo f m = sumTo g m + sumTo h m
  | 0 => rfl
  | m + 1 => by rw [sumTo, sumTo, sumTo, sumTo_add f g h e m, e]; omega
theorem sumTo_from {f : Nat → Int} {c : Nat} {p : Int} (h : ∀ i, f i = if c ≤ i then p else 0) : ∀ m : Nat, sumTo f m = ((m - c : Nat) : Int) * p
  | 0 => by simp [sumTo]
  | m + 1 => by
    rw [sumTo, sumTo_from h m, h]
    by_cases e : c ≤ m
    · rw [if_pos e, show m + 1 - c = (m - c) + 1 from by omega, Int.natCast_add, Int.add_mul]; simp
    · rw [if_neg e, show m + 1 - c = 0 from by omega, show m - c = 0 from by omega]; simp
theorem countTo_step (l : List (Int × Int)) (K : List Bool) (k : Nat) : (∃ s, l[k]? = some s ∧ countTo l K (k + 1) = countTo l K k + ((2 ^ s.2.toNat : Nat) : Int)) ∨ countTo l K (k + 1) = countTo l K k := by
  rw [countTo]
  split
  · rename_i s hs _
    exact Or.inl ⟨s, hs, rfl⟩
  · exact Or.inr (Int.add_zero _)
theorem countTo_bd {l : List (Int × Int)} {K : List Bool} (hl : ∀ (i : Nat) (s : Int × Int), l[i]? = some s → s.2 ≤ 20) : ∀ k : Nat, 0 ≤ countTo l K k ∧ countTo l K k ≤ (k : Int) * 1048576
  | 0 => by simp [countTo]
  | k + 1 => by
    have ih := countTo_bd (K := K) hl k
    rcases countTo_step l K k with ⟨s, hs, e⟩ | e
    · rw [e]
      have h1 := hl k s hs
      have : 2 ^ s.2.toNat ≤ 2 ^ 20 := Nat.pow_le_pow_right (by decide) (by omega)
      generalize 2 ^ s.2.toNat = p at *
      omega
    · rw [e]; omega
/-- what one span of level v stands for, over all 64 values -/
theorem one_sum {v low : Int} (h0 : 0 ≤ v) (h6 : v ≤ 6) (l0 : 0 ≤ low) (l1 : low < 1125899906842624) : sumTo (fun i => if thr v ≤ (i : Int) * 1125899906842624 + low then ((2 ^ v.toNat : Nat) : Int) else 0) 64 = 64 := by
  have key : ∀ (c p : Nat) (t : Int), thr v = t → t = (c : Int) * 1125899906842624 → 2 ^ v.toNat = p → (64 - c) * p = 64 → sumTo (fun i => if thr v ≤ (i : Int) * 1125899906842624 + low then ((2 ^ v.toNat : Nat) : Int) else 0) 64 = 64 := by
    intro c p t ht htc hp hcp
    rw [sumTo_from (c := c) (p := (p : Int)) (fun i => ?_), ← Int.natCast_mul, hcp]; · rfl
    rw [hp, ht]
    by_cases e : c ≤ i
    · rw [if_pos e, if_pos (by omega)]
    · rw [if_neg e, if_neg (by omega)]
  obtain ⟨n, rfl⟩ := Int.eq_ofNat_of_zero_le h0
  have hn : n = 0 ∨ n = 1 ∨ n = 2 ∨ n = 3 ∨ n = 4 ∨ n = 5 ∨ n = 6 := by omega
  rcases hn with rfl | rfl | rfl | rfl | rfl | rfl | rfl
  · exact key 0 1 0 (by decide) (by decide) (by decide) (by decide)
  · exact key 32 2 36028797018963968 (by decide) (by decide) (by decide) (by decide)
  · exact key 48 4 54043195528445952 (by decide) (by decide) (by decide) (by decide)
  · exact key 56 8 63050394783186944 (by decide) (by decide) (by decide) (by decide)
  · exact key 60 16 67553994410557440 (by decide) (by decide) (by decide) (by decide)
  · exact key 62 32 69805794224242688 (by decide) (by decide) (by decide) (by decide)
  · exact key 63 64 70931694131085312 (by decide) (by decide) (by decide) (by decide)
theorem all_sum {s : List (Int × Int)} {low : Int} (hs : ∀ (i : Nat) (x : Int × Int), s[i]? = some x → 0 ≤ x.2 ∧ x.2 ≤ 6) (l0 : 0 ≤ low) (l1 : low < 1125899906842624) : ∀ n : Nat, n ≤ s.length → sumTo (fun i => countTo s (keptL s ((i : Int) * 1125899906842624 + low)) n) 64 = (n : Int) * 64
  | 0, _ => by
    have := sumTo_from (f := fun i => countTo s (keptL s ((i : Int) * 1125899906842624 + low)) 0) (c := 0) (p := 0) (fun i => by simp [countTo]) 64
    rw [this]; rfl
  | n + 1, hn => by
    obtain ⟨x, hx⟩ : ∃ x, s[n]? = some x := ⟨_, List.getElem?_eq_getElem (by omega)⟩
    rw [sumTo_add _ (fun i => countTo s (keptL s ((i : Int) * 1125899906842624 + low)) n) (fun i => if thr x.2 ≤ (i : Int) * 1125899906842624 + low then ((2 ^ x.2.toNat : Nat) : Int) else 0) (fun i => ?_) 64, all_sum hs l0 l1 n (by omega), one_sum (hs n x hx).1 (hs n x hx).2 l0 l1]
    · omega
    · have hk := keptL_get (r := (i : Int) * 1125899906842624 + low) hx
      by_cases e : thr x.2 ≤ (i : Int) * 1125899906842624 + low
      · rw [if_pos e, countTo_yes hx (by rw [hk, decide_eq_true e])]
      · rw [if_neg e, countTo_no (by rw [hk, decide_eq_false e]), Int.add_zero]
end Span
end Go.Proofs.Ytfocmnjkoominaa
