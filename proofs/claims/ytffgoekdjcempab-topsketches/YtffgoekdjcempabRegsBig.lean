/- Registers after many random values: the greatest noughts of each place. Mathematics alone. -/
import Derived.Test.YtffgoekdjcempabRegsPut
import Derived.Test.YtffgoekdjcempabRegsJoin
namespace Go.Proofs.Ytffgoekdjcempab
open Go.Lib
namespace Regs

/-- what stands at place j of N -/
def bigN (N j : Int) : List Int → Int
  | [] => 0
  | x :: L => if x % N = j then max (noughtsR x N) (bigN N j L) else bigN N j L
def regL (N : Nat) (L : List Int) : List Int := (List.range N).map (fun (j : Nat) => bigN (N : Int) (j : Int) L)
theorem bigN_bd (N j : Int) : ∀ L : List Int, 0 ≤ bigN N j L ∧ bigN N j L ≤ 57
  | [] => by simp [bigN]
  | x :: L => by
    have := bigN_bd N j L
    have h : noughtsR x N ≤ 57 := by unfold noughtsR; omega
    rw [bigN]
    split <;> omega
theorem bigN_append (N j : Int) : ∀ L M : List Int, bigN N j (L ++ M) = max (bigN N j L) (bigN N j M)
  | [], M => by have := bigN_bd N j M; rw [List.nil_append, bigN]; omega
  | x :: L, M => by
    rw [List.cons_append, bigN, bigN, bigN_append N j L M]
    split <;> omega
theorem regL_len (N : Nat) (L : List Int) : (regL N L).length = N := by simp [regL]
theorem regL_get {N j : Nat} (L : List Int) (h : j < N) : (regL N L)[j]? = some (bigN (N : Int) (j : Int) L) := by simp [regL, h]
theorem regL_nil (N : Nat) : regL N [] = List.replicate N 0 := by
  refine List.ext_getElem? fun j => ?_
  by_cases h : j < N
  · rw [regL_get _ h]; simp [h, bigN]
  · rw [List.getElem?_eq_none (by rw [regL_len]; omega), List.getElem?_eq_none (by simp; omega)]
theorem regL_ok {N : Nat} (h : lenR N = true) (L : List Int) : regE (regL N L) = 0 := by
  refine regE_zero.2 ⟨by rw [regL_len]; exact h, fun x hx => ?_⟩
  obtain ⟨j, _, rfl⟩ := List.mem_map.1 hx
  exact bigN_bd _ _ _
theorem regL_put {N : Nat} (h : 1 ≤ N) (L : List Int) {x : Int} (hx : 0 ≤ x) : putR (regL N L) x = regL N (L ++ [x]) := by
  unfold putR
  rw [regL_len]
  obtain ⟨k, hk⟩ : ∃ k : Nat, x % (N : Int) = (k : Int) := ⟨(x % (N : Int)).toNat, by have := Int.emod_nonneg x (show (N : Int) ≠ 0 by omega); omega⟩
  have hkN : k < N := by have := Int.emod_lt_of_pos x (show (0 : Int) < N by omega); omega
  rw [hk]
  simp only [Int.toNat_natCast]
  refine List.ext_getElem? fun j => ?_
  by_cases hj : j < N
  · rw [regL_get _ hj, bigN_append, bigN, bigN, hk]
    by_cases hjk : k = j
    · subst hjk
      rw [List.getElem?_set_self (by rw [regL_len]; exact hj), if_pos rfl, List.getD_eq_getElem?_getD, regL_get _ hj]
      have := bigN_bd (N : Int) (k : Int) L
      rw [Option.getD_some]
      congr 1
      omega
    · rw [List.getElem?_set_ne hjk, regL_get _ hj, if_neg (by omega)]
      have := bigN_bd (N : Int) (j : Int) L
      congr 1
      omega
  · rw [List.getElem?_eq_none (by rw [List.length_set, regL_len]; omega), List.getElem?_eq_none (by rw [regL_len]; omega)]
theorem regL_join (N : Nat) (L M : List Int) : joinR (regL N L) (regL N M) = regL N (L ++ M) := by
  refine List.ext_getElem? fun j => ?_
  by_cases hj : j < N
  · rw [joinR_get (regL_get L hj) (regL_get M hj), regL_get _ hj, bigN_append]
  · rw [List.getElem?_eq_none (by rw [joinR_len (by rw [regL_len, regL_len]), regL_len]; omega), List.getElem?_eq_none (by rw [regL_len]; omega)]
theorem regL_same {N : Nat} {L M : List Int} (h : ∀ j, bigN (N : Int) j L = bigN (N : Int) j M) : regL N L = regL N M := by
  unfold regL
  exact List.map_congr_left (fun j _ => h j)
theorem putL_reg {N : Nat} (h : lenR N = true) (L : List Int) {x : Int} (h0 : 0 ≤ x) (h1 : x < 72057594037927936) : putE (regL N L) x = 0 ∧ putL (regL N L) x = regL N (L ++ [x]) := by
  have e : putE (regL N L) x = 0 := putE_zero.2 ⟨regL_ok h L, h0, h1⟩
  exact ⟨e, by unfold putL; rw [if_pos e, regL_put (lenR_pos h).1 L h0]⟩
theorem joinL_reg {N : Nat} (h : lenR N = true) (L M : List Int) : pairE (regL N L) (regL N M) = 0 ∧ joinL (regL N L) (regL N M) = regL N (L ++ M) := by
  have e : pairE (regL N L) (regL N M) = 0 := pairE_zero.2 ⟨regL_ok h L, regL_ok h M, by rw [regL_len, regL_len]⟩
  exact ⟨e, by unfold joinL; rw [if_pos e, regL_join]⟩
theorem own_ints {w : World} {base : Nat} {e : TypeId} {v : Value} {l : List Int} {K : Nat} (h : Own w base e 1 v (l.map iC)) (hl : l.length = K) : ∃ a cap, v = .slice a K cap ∧ Tab w a K cap 1 (l.map iC) := by
  obtain ⟨a, cap, rfl, T⟩ := h.tab
  rw [List.length_map, hl] at T ⊢
  exact ⟨a, cap, rfl, T⟩
end Regs
end Go.Proofs.Ytffgoekdjcempab
