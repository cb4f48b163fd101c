/- Draws that fit their places, made of any numbers. Mathematics alone. -/
import Derived.Test.YtanfkolcoaofdaaWithin
import Derived.Test.YtanfkolcoaofdaaDigitMath
namespace Go.Proofs.Ytanfkolcoaofdaa
namespace Digit

/-- the draw for place i out of any numbers: below i + 1 -/
def drawAt (ds : List Int) (i : Nat) : Int :=
  match ds[i]? with
  | some z => withI z ((i : Int) + 1)
  | none => 0
theorem drawAt_bd (ds : List Int) (i : Nat) : 0 ≤ drawAt ds i ∧ drawAt ds i ≤ i := by
  unfold drawAt
  split
  · have := withI_bd (by assumption) ((i : Int) + 1) (by omega)
    omega
  · omega
theorem drawAt_some {ds : List Int} {i : Nat} {z : Int} (h : ds[i]? = some z) : drawAt ds i = withI z ((i : Int) + 1) := by unfold drawAt; rw [h]
theorem drawAt_none {ds : List Int} {i : Nat} (h : ds.length ≤ i) : drawAt ds i = 0 := by unfold drawAt; rw [List.getElem?_eq_none h]
def drawList (ds : List Int) (n : Nat) : List Int := (List.range n).map (drawAt ds)
theorem drawList_len (ds : List Int) (n : Nat) : (drawList ds n).length = n := by simp [drawList]
theorem drawList_succ (ds : List Int) (n : Nat) : drawList ds (n + 1) = drawList ds n ++ [drawAt ds n] := by simp [drawList, List.range_succ]
theorem drawList_get {ds : List Int} {n i : Nat} (h : i < n) : (drawList ds n)[i]? = some (drawAt ds i) := by simp [drawList, h]
theorem drawList_ok (ds : List Int) (n : Nat) : DrawsOk (drawList ds n) := by
  intro i x hx
  have hi : i < n := by
    have := (List.getElem?_eq_some_iff.1 hx).1
    rwa [drawList_len] at this
  rw [drawList_get hi] at hx
  obtain rfl := Option.some.inj hx
  exact drawAt_bd ds i
/-- the last draw put in its place -/
theorem drawSet_ok (ds : List Int) (m : Nat) (c : Int) (h0 : 0 ≤ c) (h1 : c ≤ m) : DrawsOk ((drawList ds (m + 1)).set m c) := by
  intro i x hx
  by_cases e : i = m
  · subst e
    rw [List.getElem?_set_self (by rw [drawList_len]; omega)] at hx
    obtain rfl := Option.some.inj hx
    exact ⟨h0, h1⟩
  · rw [List.getElem?_set_ne (by omega)] at hx
    exact drawList_ok ds (m + 1) i x hx
theorem deal_two (l ds : List Int) (m : Nat) (a b : Nat) : unlike (dealTo l ((drawList ds (m + 1)).set m a) (m + 1)) (dealTo l ((drawList ds (m + 1)).set m b) (m + 1)) (m + 1) ≤ 3 := by
  have hl : ∀ c : Nat, ((drawList ds (m + 1)).set m (c : Int))[m]? = some (c : Int) := fun c => List.getElem?_set_self (by rw [drawList_len]; omega)
  have hs : dealTo l ((drawList ds (m + 1)).set m a) m = dealTo l ((drawList ds (m + 1)).set m b) m := deal_same m (fun k hk => by rw [List.getElem?_set_ne (by omega), List.getElem?_set_ne (by omega)])
  have h := unlike_le (x := dealTo l ((drawList ds (m + 1)).set m a) (m + 1)) (y := dealTo l ((drawList ds (m + 1)).set m b) (m + 1)) (a := m) (b := a) (c := b) (fun k h1 h2 h3 => by
    rw [dealTo, dealTo, hl, hl, hs, Option.getD_some, Option.getD_some, Int.toNat_natCast, Int.toNat_natCast, swap_else h1 h2, swap_else h1 h3]) (m + 1)
  split at h <;> split at h <;> split at h <;> omega

end Digit
end Go.Proofs.Ytanfkolcoaofdaa
