/- Texts joined: DigitFact, DigitCheck. -/
import Derived.Test.YtffgoekdjcempabDigitMath
import Derived.Test.YtffgoekdjcempabGr1
import Derived.Deep.LoopGhost
/- The contract of the program's digit.factorial. -/
namespace Go.Proofs.Ytffgoekdjcempab
open Go.ChangeShapes Go.WideShapes Go.ChangeAt Go.RowKit
open Digit

set_option maxRecDepth 100000 in
set_option maxHeartbeats 1000000 in
theorem factorial_any (n : Nat) (hn : n ≤ 12) (w : World) :
    Calls Try.prog 78 #[.int .i64 n] w fun e w' => e = .returned (.int .i64 (fact n : Nat)) ∧ w = w' := by
  go_enter Try.func78, Try.ntmps78
  go_wp2
  go_loopg [3, 4] (n - 1) (fun g z i wr => wr = w ∧ ∃ k : Nat, k + g = n - 1 ∧ i = .int .i64 ((k : Int) + 2) ∧ z = .int .i64 (fact (k + 1) : Nat))
  case atStart => exact ⟨rfl, 0, by omega, by go_num, rfl⟩
  case round =>
    obtain ⟨rfl, k, hk0, rfl, rfl⟩ := hrel
    have HJ := Lib.hid hk0
    have hk : k ≤ n - 1 := by omega
    clear hk0
    have hq : fact (k + 1) ≤ 479001600 := fact_max (by omega)
    by_cases hlt : k < n - 1
    · have hq2 : fact (k + 2) ≤ 479001600 := fact_max (by omega)
      have e1 : (fact (k + 1) : Int) * ((k : Int) + 2) = (fact (k + 2) : Int) := by
        rw [show fact (k + 2) = (k + 2) * fact (k + 1) from rfl, Int.natCast_mul, Int.mul_comm]
        rfl
      generalize hF0 : fact (k + 2) = q at *
      have hF : Hid (fact (k + 1 + 1) = q) := Lib.hid hF0
      clear hF0
      generalize fact (k + 1) = p at *
      have t1 : (k : Int) + 2 ≤ n := by omega
      go_wp2
      go_roundg (n - 1 - (k + 1))
      case measure => have := HJ.out; omega
      case rel => exact ⟨rfl, k + 1, by omega, by go_num, by rw [hF.out]⟩
    · have HF : Hid (fact (k + 1) = fact n) := by
        rcases Nat.eq_zero_or_pos n with h | h
        · subst h
          obtain rfl : k = 0 := by omega
          exact Lib.hid rfl
        · rw [show k + 1 = n from by omega]; exact Lib.hid rfl
      generalize fact (k + 1) = p at *
      have t1 : (n : Int) < (k : Int) + 2 := by omega
      go_wp2
      go_ret
      exact ⟨ret_int (by rw [HF.out]), rfl⟩

end Go.Proofs.Ytffgoekdjcempab

/- What Check of permutations answers, as a function on lists. Mathematics alone. -/
namespace Go.Proofs.Ytffgoekdjcempab
namespace Digit

/-- what is wrong with the numbers behind A: 1 out of range, 5 there already -/
def goD (n : Nat) : List Int → List Int → Int
  | _, [] => 0
  | A, x :: r => if x < 0 ∨ (n : Int) ≤ x then 1 else if x ∈ A then 5 else goD n (A ++ [x]) r
def checkD (l : List Int) : Int := if 12 < l.length then 2 else goD l.length [] l
theorem goD_zero (n : Nat) : ∀ (r A : List Int), goD n A r = 0 → (∀ x ∈ r, 0 ≤ x ∧ x < n) ∧ r.Nodup ∧ ∀ x ∈ r, x ∉ A
  | [], A, _ => by simp
  | x :: r, A, h => by
    rw [goD] at h
    split at h
    · cases h
    · split at h
      · cases h
      · obtain ⟨h1, h2, h3⟩ := goD_zero n r (A ++ [x]) h
        refine ⟨?_, List.nodup_cons.2 ⟨fun hx => h3 x hx (by simp), h2⟩, ?_⟩
        · intro y hy
          rcases List.mem_cons.1 hy with rfl | hy
          · omega
          · exact h1 y hy
        · intro y hy
          rcases List.mem_cons.1 hy with rfl | hy
          · assumption
          · exact fun hm => h3 y hy (by simp [hm])
theorem goD_ok (n : Nat) : ∀ (r A : List Int), (∀ x ∈ r, 0 ≤ x ∧ x < n) → r.Nodup → (∀ x ∈ r, x ∉ A) → goD n A r = 0
  | [], _, _, _, _ => rfl
  | x :: r, A, h1, h2, h3 => by
    have a := h1 x (by simp)
    rw [goD, if_neg (by omega), if_neg (h3 x (by simp))]
    refine goD_ok n r (A ++ [x]) (fun y hy => h1 y (by simp [hy])) (List.nodup_cons.1 h2).2 (fun y hy hm => ?_)
    rcases List.mem_append.1 hm with hm | hm
    · exact h3 y (by simp [hy]) hm
    · simp at hm
      subst hm
      exact (List.nodup_cons.1 h2).1 hy
theorem checkD_zero {l : List Int} (h : checkD l = 0) : l.length ≤ 12 ∧ Ok l := by
  unfold checkD at h
  split at h
  · cases h
  · obtain ⟨h1, h2, _⟩ := goD_zero _ l _ h
    exact ⟨by omega, h2, h1⟩
theorem checkD_ok {l : List Int} (h : l.length ≤ 12) (hk : Ok l) : checkD l = 0 := by
  unfold checkD
  rw [if_neg (by omega)]
  exact goD_ok _ l [] hk.2 hk.1 (by simp)
theorem goD_step {n : Nat} {l : List Int} {k : Nat} {x : Int} (hx : l[k]? = some x) : goD n (l.take k) (l.drop k) = if x < 0 ∨ (n : Int) ≤ x then 1 else if x ∈ l.take k then 5 else goD n (l.take (k + 1)) (l.drop (k + 1)) := by
  obtain ⟨hk, rfl⟩ := List.getElem?_eq_some_iff.1 hx
  have e : l.take (k + 1) = l.take k ++ [l[k]] := by rw [List.take_add_one, hx]; rfl
  rw [e]
  conv => lhs; rw [List.drop_eq_getElem_cons hk, goD]
/-- the rank so far, as the program reckons it -/
def rankTo (l : List Int) : Nat → Nat
  | 0 => 0
  | k + 1 => rankTo l k * (l.length - k) + less ((l[k]?).getD 0) (l.drop (k + 1))
theorem rankTo_eq (l : List Int) : ∀ k, k ≤ l.length → rankTo l k * fact (l.length - k) + rankOf (l.drop k) = rankOf l
  | 0, _ => by rw [rankTo, Nat.zero_mul, Nat.zero_add, List.drop_zero]
  | k + 1, h => by
    have ih := rankTo_eq l k (by omega)
    have hk : k < l.length := by omega
    rw [List.drop_eq_getElem_cons hk, rankOf, List.length_drop] at ih
    have e : l.length - k = l.length - (k + 1) + 1 := by omega
    rw [rankTo, List.getElem?_eq_getElem hk, Option.getD_some, Nat.add_mul]
    rw [e, fact, ← Nat.mul_assoc] at ih
    rw [e]
    omega
theorem rankTo_all (l : List Int) : rankTo l l.length = rankOf l := by
  have h := rankTo_eq l l.length (Nat.le_refl _)
  rw [Nat.sub_self, List.drop_length] at h
  simp [fact, rankOf] at h
  exact h
theorem rankTo_le {l : List Int} (hl : l.length ≤ 12) (hr : rankOf l ≤ 479001600) {k : Nat} (hk : k ≤ l.length) : rankTo l k ≤ 479001600 := by
  have h := rankTo_eq l k hk
  have h2 : rankTo l k ≤ rankTo l k * fact (l.length - k) := Nat.le_mul_of_pos_right _ (fact_pos _)
  omega
/-- what Rank and Order answer -/
def orderP (n r : Int) : List Int × Int :=
  if n < 0 ∨ 12 < n then ([], 1) else if r < 0 ∨ (fact n.toNat : Int) ≤ r then ([], 4) else (orderOf n.toNat r.toNat, 0)
theorem orderP_ok {n r : Nat} (hn : n ≤ 12) (hr : r < fact n) : orderP n r = (orderOf n r, 0) := by
  unfold orderP
  rw [if_neg (by omega), if_neg (by rw [Int.toNat_natCast]; omega), Int.toNat_natCast, Int.toNat_natCast]

end Digit
end Go.Proofs.Ytffgoekdjcempab
