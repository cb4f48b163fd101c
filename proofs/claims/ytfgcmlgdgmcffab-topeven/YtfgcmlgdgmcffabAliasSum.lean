/- The contract of the program's alias.sum. -/
import Derived.Test.YtfgcmlgdgmcffabShapes
import Derived.Test.YtfgcmlgdgmcffabBase
import Derived.WalkKit
import Derived.Deep.LoopGhost
namespace Go.Proofs.Ytfgcmlgdgmcffab
open Go.ChangeShapes Go.WideShapes Go.ChangeAt Go.RowKit

def okW (x : Int) : Bool := decide (0 ≤ x) && decide (x ≤ 1000000000000)
/-- what is wrong with the weights -/
def weightsE (l : List Int) : Int := if 40 < l.length then 2 else if l.all okW = true then (if l.sum = 0 then 6 else 0) else 1
theorem sum_take {l : List Int} {k : Nat} {y : Int} (h : l[k]? = some y) : (l.take (k + 1)).sum = (l.take k).sum + y := by
  rw [List.take_add_one, h, List.sum_append]; simp
theorem all_drop {l : List Int} {k : Nat} {y : Int} (h : l[k]? = some y) : (l.drop k).all okW = (okW y && (l.drop (k + 1)).all okW) := by
  obtain ⟨hk, rfl⟩ := List.getElem?_eq_some_iff.1 h
  rw [List.drop_eq_getElem_cons hk, List.all_cons]
theorem weightsE_zero {l : List Int} (h : weightsE l = 0) : l.length ≤ 40 ∧ (∀ x ∈ l, 0 ≤ x ∧ x ≤ 1000000000000) ∧ l.sum ≠ 0 := by
  unfold weightsE at h
  split at h
  · cases h
  split at h
  · rename_i h1 h2
    split at h
    · cases h
    · rename_i h3
      refine ⟨by omega, fun x hx => ?_, h3⟩
      have := List.all_eq_true.1 h2 x hx
      unfold okW at this
      rw [Bool.and_eq_true, decide_eq_true_iff, decide_eq_true_iff] at this
      exact this
  · cases h
theorem sum_bd : ∀ {l : List Int}, (∀ x ∈ l, 0 ≤ x ∧ x ≤ 1000000000000) → 0 ≤ l.sum ∧ l.sum ≤ (l.length : Int) * 1000000000000
  | [], _ => by simp
  | x :: l, h => by
    have h1 := sum_bd (l := l) (fun y hy => h y (List.mem_cons_of_mem _ hy))
    have h2 := h x (by simp)
    rw [List.sum_cons, List.length_cons]
    omega

set_option maxRecDepth 100000 in
set_option maxHeartbeats 1000000 in
theorem aliasSum_any (a : Option Addr) (len cap : Nat) (l : List Int) (w : World) (h : Tab w a len cap 1 (l.map iC)) :
    Calls Try.prog 51 #[.slice a len cap] w fun e w' => e = .returned (.tuple #[.int .i64 (if weightsE l = 0 then l.sum else 0), .int .i64 (weightsE l)]) ∧ w = w' := by
  have hl := h.hlen
  have hm := h.hmax
  have hle := h.hle
  rw [List.length_map] at hl
  unfold maxLen at hm
  have HT := Lib.hid h
  have HL := Lib.hid hl
  clear h
  by_cases c1 : 40 < len
  · rw [show weightsE l = 2 from if_pos (by omega)]
    clear hl
    go_enter Try.func51, Try.ntmps51
    go_wp2
    go_ret2
    exact ⟨rfl, rfl⟩
  have c1' : len ≤ 40 := by omega
  have HE : Hid (weightsE l = if (l.drop 0).all okW = true then (if l.sum = 0 then 6 else 0) else 1) := Lib.hid (by unfold weightsE; rw [if_neg (by omega)]; rfl)
  clear hl c1
  obtain ⟨B, hB⟩ : ∃ B, (l.drop 0).all okW = B := ⟨_, rfl⟩
  rw [hB] at HE
  obtain ⟨E, hE⟩ : ∃ E, weightsE l = E := ⟨_, rfl⟩
  obtain ⟨T, hT⟩ : ∃ T, (if E = 0 then l.sum else 0) = T := ⟨_, rfl⟩
  rw [hE, hT]
  rw [hE] at HE
  have HTT := Lib.hid hT
  clear hE hT
  have HB := Lib.hid hB
  clear hB
  go_enter Try.func51, Try.ntmps51
  go_wp2_with fail
  go_loopg [4, 12] len (fun g al i wr => ∃ (k : Nat) (S : Int), k + g = len ∧ i = .int .i64 k ∧ al = .int .i64 S ∧ 0 ≤ S ∧ S ≤ (k : Int) * 1000000000000 ∧ Hid (S = (l.take k).sum) ∧ Hid ((l.drop k).all okW = B) ∧ wr = w)
  case atStart => exact ⟨0, 0, by omega, rfl, rfl, by omega, by omega, Lib.hid rfl, HB, rfl⟩
  case round =>
    clear HB
    obtain ⟨k, S, hk0, rfl, rfl, hS0, hS1, HS, HB, rfl⟩ := hrel
    have HJ := Lib.hid hk0
    have hk : k ≤ len := by omega
    clear hk0
    by_cases hlt : k < len
    · obtain ⟨x, hx⟩ : ∃ x, l[k]? = some x := ⟨_, List.getElem?_eq_getElem (by rw [HL.out]; exact hlt)⟩
      obtain ⟨b1, o1, ha, hbs, c0⟩ := HT.out.one (Below.refl _ _) (map_get hx)
      have HZ := Lib.hid (all_drop hx)
      have HN := Lib.hid (sum_take hx)
      subst ha
      clear hx
      by_cases g1 : x < 0
      · rw [HB.out, show okW x = false from by unfold okW; rw [show decide (0 ≤ x) = false from decide_eq_false (by omega)]; rfl] at HZ
        obtain rfl : B = false := HZ.out.trans (by simp)
        obtain rfl : E = 1 := HE.out
        obtain rfl : T = 0 := HTT.out.symm
        go_wp2
        go_ret2
        exact ⟨rfl, rfl⟩
      have g1' : 0 ≤ x := by omega
      clear g1
      by_cases g2 : 1000000000000 < x
      · rw [HB.out, show okW x = false from by unfold okW; rw [show decide (x ≤ 1000000000000) = false from decide_eq_false (by omega), Bool.and_false]] at HZ
        obtain rfl : B = false := HZ.out.trans (by simp)
        obtain rfl : E = 1 := HE.out
        obtain rfl : T = 0 := HTT.out.symm
        go_wp2
        go_ret2
        exact ⟨rfl, rfl⟩
      have g2' : x ≤ 1000000000000 := by omega
      clear g2
      rw [HB.out, show okW x = true from by unfold okW; rw [show decide (0 ≤ x) = true from decide_eq_true g1', show decide (x ≤ 1000000000000) = true from decide_eq_true g2']; rfl, Bool.true_and] at HZ
      go_wp2_with fail
      go_roundg (len - (k + 1))
      case measure => have := HJ.out; omega
      case rel => exact ⟨k + 1, S + x, by omega, by go_num, by go_num, by omega, by omega, Lib.hid (by rw [HN.out, HS.out]), Lib.hid HZ.out.symm, rfl⟩
    · obtain rfl : k = len := by omega
      obtain rfl : B = true := by
        rw [← HB.out, List.drop_of_length_le (by rw [HL.out]; omega)]; rfl
      have hS : S = l.sum := by rw [HS.out, List.take_of_length_le (by rw [HL.out]; omega)]
      have hE' : E = if l.sum = 0 then 6 else 0 := HE.out
      have hT' := HTT.out
      rw [← hS] at hE' hT'
      clear HS hS HE HTT
      by_cases g3 : S = 0
      · rw [if_pos g3] at hE'
        subst hE'
        obtain rfl : T = 0 := hT'.symm.trans (if_neg (by decide))
        subst g3
        clear hT'
        go_wp2
        go_ret2
        exact ⟨rfl, rfl⟩
      · have t1 : (S == 0) = false := by rw [beq_eq_false_iff_ne]; exact g3
        rw [if_neg g3] at hE'
        subst hE'
        rw [if_pos rfl] at hT'
        subst hT'
        clear g3
        go_wp2
        go_ret2
        exact ⟨rfl, rfl⟩
end Go.Proofs.Ytfgcmlgdgmcffab
