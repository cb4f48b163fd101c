/- The contract of the document's own weights (culref.Weights, with slices.ContainsFunc and its closure). -/
import Derived.Test.YteddoccgbebbeabAliasSum
import Derived.Test.YteddoccgbebbeabRefCount
namespace Go.Proofs.Yteddoccgbebbeab
open Go.ChangeShapes Go.WideShapes Go.ChangeAt Go.RowKit

set_option maxHeartbeats 400000 in
theorem weightsClo_any (x : Int) (w : World) :
    Calls Try.prog 39 #[.int .i64 x] w fun e w' => e = .returned (.bool (!okW x)) ∧ w = w' := by
  have H := Lib.hid (count_ref x w)
  rw [show (decide (0 ≤ x) && decide (x ≤ 1000000000000)) = okW x from rfl] at H
  generalize okW x = c at *
  go_enter Try.func39, Try.ntmps39
  go_wp2_with fail
  refine H.out.mono ?_
  rintro e w1 ⟨rfl, rfl⟩
  go_wp2
  go_ret
  exact ⟨rfl, rfl⟩

set_option maxRecDepth 100000 in
set_option maxHeartbeats 1000000 in
theorem weightsIndex_any (a : Option Addr) (len cap : Nat) (l : List Int) (w : World) (h : Tab w a len cap 1 (l.map iC)) :
    Calls Try.prog 31 #[.slice a len cap, .func (.func 39) #[] #[]] w fun e w' => ∃ r : Int, e = .returned (.int .i64 r) ∧ decide (0 ≤ r) = !(l.all okW) ∧ w = w' := by
  have hl := h.hlen
  have hm := h.hmax
  have hle := h.hle
  rw [List.length_map] at hl
  unfold maxLen at hm
  have HT := Lib.hid h
  have HL := Lib.hid hl
  clear h hl
  obtain ⟨B, hB⟩ : ∃ B, l.all okW = B := ⟨_, rfl⟩
  rw [hB]
  have HB : Hid ((l.drop 0).all okW = B) := Lib.hid hB
  clear hB
  have HC := Lib.hid weightsClo_any
  go_enter Try.func31, Try.ntmps31
  go_wp2_with fail
  go_loopg [8] len (fun g i wr => ∃ k : Nat, k + g = len ∧ i = .int .i64 k ∧ Hid ((l.drop k).all okW = B) ∧ wr = w)
  case atStart => exact ⟨0, by omega, rfl, HB, rfl⟩
  case round =>
    clear HB
    obtain ⟨k, hk0, rfl, HB, rfl⟩ := hrel
    have HJ := Lib.hid hk0
    have hk : k ≤ len := by omega
    clear hk0
    by_cases hlt : k < len
    · obtain ⟨x, hx⟩ : ∃ x, l[k]? = some x := ⟨_, List.getElem?_eq_getElem (by rw [HL.out]; exact hlt)⟩
      obtain ⟨b1, o1, ha, hbs, c0⟩ := HT.out.one (Below.refl _ _) (map_get hx)
      have HZ := Lib.hid (all_drop hx)
      have HX := Lib.hid (HC.out x)
      rw [HB.out] at HZ
      subst ha
      clear hx HC
      generalize okW x = c at *
      cases c
      · obtain rfl : B = false := HZ.out.trans (by simp)
        go_wp2_with fail
        refine (HX.out _).mono ?_
        rintro e w1 ⟨rfl, rfl⟩
        go_wp2
        go_ret
        exact ⟨_, rfl, by simp, rfl⟩
      · rw [Bool.true_and] at HZ
        go_wp2_with fail
        refine (HX.out _).mono ?_
        rintro e w1 ⟨rfl, rfl⟩
        go_wp2_with fail
        go_roundg (len - (k + 1))
        case measure => have := HJ.out; omega
        case rel => exact ⟨k + 1, by omega, by go_num, Lib.hid HZ.out.symm, rfl⟩
    · obtain rfl : k = len := by omega
      obtain rfl : B = true := by
        rw [← HB.out, List.drop_of_length_le (by rw [HL.out]; omega)]; rfl
      go_wp2
      go_ret
      exact ⟨_, rfl, by simp, rfl⟩

set_option maxRecDepth 100000 in
set_option maxHeartbeats 1000000 in
theorem weightsContains_any (a : Option Addr) (len cap : Nat) (l : List Int) (w : World) (h : Tab w a len cap 1 (l.map iC)) :
    Calls Try.prog 38 #[.slice a len cap, .func (.func 39) #[] #[]] w fun e w' => e = .returned (.bool (!(l.all okW))) ∧ w = w' := by
  have H := Lib.hid (weightsIndex_any a len cap l w h)
  clear h
  generalize l.all okW = c at *
  go_enter Try.func38, Try.ntmps38
  go_wp2_with fail
  refine H.out.mono ?_
  rintro e w1 ⟨r, rfl, hr, rfl⟩
  go_wp2
  go_ret
  exact ⟨by rw [← hr]; rfl, rfl⟩

set_option maxRecDepth 100000 in
set_option maxHeartbeats 1000000 in
theorem refWeights_any (a : Option Addr) (len cap : Nat) (l : List Int) (w : World) (h : Tab w a len cap 1 (l.map iC)) :
    Calls Try.prog 17 #[.slice a len cap] w fun e w' => e = .returned (.tuple #[.int .i64 (if weightsE l = 0 then l.sum else 0), .int .i64 (weightsE l)]) ∧ w = w' := by
  have hl := h.hlen
  have hm := h.hmax
  have hle := h.hle
  rw [List.length_map] at hl
  unfold maxLen at hm
  have HC := Lib.hid (weightsContains_any a len cap l w h)
  have HT := Lib.hid h
  have HL := Lib.hid hl
  clear h
  by_cases c1 : 40 < len
  · rw [show weightsE l = 2 from if_pos (by omega)]
    clear hl
    go_enter Try.func17, Try.ntmps17
    go_wp2
    go_ret2
    exact ⟨rfl, rfl⟩
  have c1' : len ≤ 40 := by omega
  have hE : weightsE l = if l.all okW = true then (if l.sum = 0 then 6 else 0) else 1 := by unfold weightsE; rw [if_neg (by omega)]
  clear hl c1
  by_cases hok : l.all okW = true
  case neg =>
    rw [if_neg hok] at hE
    rw [hE, if_neg (by decide)]
    rw [show l.all okW = false from by simpa using hok] at HC
    clear hE hok
    go_enter Try.func17, Try.ntmps17
    go_wp2_with fail
    refine HC.out.mono ?_
    rintro e w1 ⟨rfl, rfl⟩
    go_wp2
    go_ret2
    exact ⟨rfl, rfl⟩
  rw [if_pos hok] at hE
  have hz : ∀ x ∈ l, 0 ≤ x ∧ x ≤ 1000000000000 := fun x hx => by
    have := List.all_eq_true.1 hok x hx
    unfold okW at this
    rw [Bool.and_eq_true, decide_eq_true_iff, decide_eq_true_iff] at this
    exact this
  rw [hok] at HC
  have HZ := Lib.hid hz
  obtain ⟨A, hA⟩ : ∃ A, l.sum = A := ⟨_, rfl⟩
  rw [hA] at hE ⊢
  rw [hE]
  have HA := Lib.hid hA
  obtain ⟨E, hEE⟩ : ∃ E : Int, (if A = 0 then 6 else 0) = E := ⟨_, rfl⟩
  obtain ⟨T, hT⟩ : ∃ T : Int, (if E = 0 then A else 0) = T := ⟨_, rfl⟩
  rw [hEE, hT]
  have HET := Lib.hid (And.intro hEE hT)
  clear hE hok hz hA hEE hT
  go_enter Try.func17, Try.ntmps17
  go_wp2_with fail
  refine HC.out.mono ?_
  rintro e w1 ⟨rfl, hw1⟩
  subst hw1
  clear HC
  go_wp2_with fail
  go_loopg [4, 14] len (fun g al i wr => ∃ (k : Nat) (S : Int), k + g = len ∧ i = .int .i64 k ∧ al = .int .i64 S ∧ 0 ≤ S ∧ S ≤ (k : Int) * 1000000000000 ∧ Hid (S = (l.take k).sum) ∧ wr = w)
  case atStart => exact ⟨0, 0, by omega, rfl, rfl, by omega, by omega, Lib.hid rfl, rfl⟩
  case round =>
    obtain ⟨k, S, hk0, rfl, rfl, hS0, hS1, HS, rfl⟩ := hrel
    have HJ := Lib.hid hk0
    have hk : k ≤ len := by omega
    clear hk0
    by_cases hlt : k < len
    · obtain ⟨x, hx⟩ : ∃ x, l[k]? = some x := ⟨_, List.getElem?_eq_getElem (by rw [HL.out]; exact hlt)⟩
      obtain ⟨b1, o1, ha, hbs, c0⟩ := HT.out.one (Below.refl _ _) (map_get hx)
      have HN := Lib.hid (sum_take hx)
      have bx := HZ.out x (List.mem_of_getElem? hx)
      have bx1 := bx.1
      have bx2 := bx.2
      subst ha
      clear hx bx
      go_wp2_with fail
      go_roundg (len - (k + 1))
      case measure => have := HJ.out; omega
      case rel => exact ⟨k + 1, S + x, by omega, by go_num, by go_num, by omega, by omega, Lib.hid (by rw [HN.out, HS.out]), rfl⟩
    · obtain rfl : k = len := by omega
      obtain rfl : S = A := by rw [HS.out, List.take_of_length_le (by rw [HL.out]; omega)]; exact HA.out
      obtain ⟨e1, e2⟩ := HET.out
      clear HET HS HA
      by_cases g3 : S = 0
      · rw [if_pos g3] at e1
        subst e1
        rw [if_neg (by decide)] at e2
        subst e2 g3
        go_wp2
        go_ret2
        exact ⟨rfl, rfl⟩
      · have t1 : (S == 0) = false := by rw [beq_eq_false_iff_ne]; exact g3
        rw [if_neg g3] at e1
        subst e1
        rw [if_pos rfl] at e2
        subst e2
        clear g3
        go_wp2
        go_ret2
        exact ⟨rfl, rfl⟩
end Go.Proofs.Yteddoccgbebbeab
