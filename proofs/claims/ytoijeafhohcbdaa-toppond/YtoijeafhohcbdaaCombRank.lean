/- The contracts of the program's comb.Check and comb.Rank. -/
import Derived.Test.YtoijeafhohcbdaaCombMath
import Derived.Test.YtoijeafhohcbdaaCombWays
import Derived.Test.YtoijeafhohcbdaaShapes
import Derived.Test.YtoijeafhohcbdaaRefGateMath
namespace Go.Proofs.Ytoijeafhohcbdaa
open Go.ChangeShapes Go.WideShapes Go.ChangeAt Go.RowKit
open Binom

set_option maxRecDepth 100000 in
set_option maxHeartbeats 1000000 in
theorem combCheck_any (a : Option Addr) (len cap : Nat) (l : List Int) (w : World) (h : Tab w a len cap 1 (l.map iC)) :
    Calls Try.prog 64 #[.slice a len cap] w fun e w' => e = .returned (.int .i64 (checkC l)) ∧ w = w' := by
  have hl := h.hlen
  have hm := h.hmax
  have he := h.hle
  rw [List.length_map] at hl
  unfold maxLen at hm
  by_cases h30 : 30 < len
  · have E : Hid (checkC l = 2) := by unfold checkC; rw [if_pos (by omega)]; exact Lib.hid rfl
    clear h hl
    go_enter Try.func64, Try.ntmps64
    go_wp2
    go_ret
    exact ⟨ret_int E.out.symm, rfl⟩
  · have E : Hid (checkC l = checkGo (prevAt l 0) (l.drop 0)) := by unfold checkC; rw [if_neg (by omega)]; exact Lib.hid rfl
    have h30' : len ≤ 30 := by omega
    have HT := Lib.hid h
    have HL := Lib.hid hl
    clear h hl
    go_enter Try.func64, Try.ntmps64
    go_wp2
    go_loopg [10] len (fun g i wr => wr = w ∧ ∃ k : Nat, k + g = len ∧ i = .int .i64 (k : Nat) ∧ Hid (checkC l = checkGo (prevAt l k) (l.drop k)))
    case atStart => exact ⟨rfl, 0, by omega, rfl, E⟩
    case round =>
      obtain ⟨rfl, k, hk0, rfl, HE⟩ := hrel
      clear E
      have HJ := Lib.hid hk0
      have hk : k ≤ len := by omega
      clear hk0
      by_cases hlt : k < len
      · obtain ⟨x, hx⟩ : ∃ x, l[k]? = some x := ⟨_, List.getElem?_eq_getElem (by rw [HL.out]; exact hlt)⟩
        obtain ⟨b, off, ha, hbs, h0⟩ := HT.out.one (Below.refl _ _) (map_get hx)
        have HS := Lib.hid (check_step hx)
        subst ha
        by_cases r1 : x < 0 ∨ 29 < x
        · have HF : Hid (checkC l = 1) := by rw [HE.out, HS.out, if_pos r1]; exact Lib.hid rfl
          clear hx
          by_cases r2 : x < 0
          · clear r1
            go_wp2
            go_ret
            exact ⟨ret_int HF.out.symm, rfl⟩
          · have r3 : 30 ≤ x := by omega
            clear r1
            go_wp2
            go_ret
            exact ⟨ret_int HF.out.symm, rfl⟩
        · have r2 : 0 ≤ x := by omega
          have r3 : x < 30 := by omega
          rcases k with _ | k
          · have HF : Hid (checkC l = checkGo (prevAt l (0 + 1)) (l.drop (0 + 1))) := by
              rw [HE.out, HS.out, if_neg r1, if_neg (by unfold prevAt; rw [if_pos rfl]; omega)]; exact Lib.hid rfl
            clear r1 hx HS
            rw [Nat.add_zero] at h0
            go_wp2
            go_roundg (len - (0 + 1))
            case measure => have := HJ.out; omega
            case rel => exact ⟨rfl, 0 + 1, by omega, by go_num, HF⟩
          · obtain ⟨y, hy⟩ : ∃ y, l[k]? = some y := ⟨_, List.getElem?_eq_getElem (by rw [HL.out]; omega)⟩
            obtain ⟨b', off', ha', hbs', h1⟩ := HT.out.one (Below.refl _ _) (map_get hy)
            simp only [Option.some.injEq, Addr.mk.injEq, and_true] at ha'
            obtain ⟨rfl, rfl⟩ := ha'
            have hp : prevAt l (k + 1) = y := by unfold prevAt; rw [if_neg (by omega), Nat.add_sub_cancel, hy]; rfl
            have e1 : (((k + 1 : Nat) : Int) - 1) = (k : Int) := by omega
            have t1 : decide (0 < ((k + 1 : Nat) : Int)) = true := by rw [decide_eq_true_iff]; omega
            by_cases hxy : x ≤ y
            · have HF : Hid (checkC l = 3) := by rw [HE.out, HS.out, if_neg r1, hp, if_pos hxy]; exact Lib.hid rfl
              clear r1 hx hy HS hp
              go_wp2
              go_ret
              exact ⟨ret_int HF.out.symm, rfl⟩
            · have hyx : y < x := by omega
              have HF : Hid (checkC l = checkGo (prevAt l (k + 1 + 1)) (l.drop (k + 1 + 1))) := by rw [HE.out, HS.out, if_neg r1, hp, if_neg hxy]; exact Lib.hid rfl
              clear r1 hx hy HS hp hxy
              go_wp2
              go_roundg (len - (k + 1 + 1))
              case measure => have := HJ.out; omega
              case rel => exact ⟨rfl, k + 1 + 1, by omega, by go_num, HF⟩
      · have HF : Hid (checkC l = 0) := by rw [HE.out, List.drop_of_length_le (by rw [HL.out]; omega)]; exact Lib.hid rfl
        go_wp2
        go_ret
        exact ⟨ret_int HF.out.symm, rfl⟩

set_option maxRecDepth 100000 in
set_option maxHeartbeats 1000000 in
theorem combRank_ok (a : Option Addr) (len cap : Nat) (m : List Nat) (w : World) (h : Tab w a len cap 1 ((nn m).map iC)) (h30 : m.length ≤ 30) (hr : rising 30 m) :
    Calls Try.prog 40 #[.slice a len cap] w fun e w' => e = .returned (.tuple #[.int .i64 (rankFrom 0 m : Nat), .int .i64 0]) ∧ w = w' := by
  have hl := h.hlen
  rw [List.length_map, nn_len] at hl
  have C := combCheck_any a len cap (nn m) w h
  rw [checkC_ok h30 hr] at C
  have C := Lib.hid C
  have hall : ∀ x ∈ m, x ≤ 30 := fun x hx => by have := ((rising_iff _ _).1 hr).2 x hx; omega
  have HP := Lib.hid (rank_part m hall)
  have HA := Lib.hid hall
  have HT := Lib.hid h
  have HL := Lib.hid hl
  have hlen : len ≤ 30 := by omega
  clear h hl hall hr h30
  go_enter Try.func40, Try.ntmps40
  go_wp2_with fail
  refine C.out.mono ?_
  rintro e w1 ⟨rfl, rfl⟩
  go_wp2
  go_loopg [5, 15] len (fun g z i wr => wr = w ∧ ∃ k : Nat, k + g = len ∧ i = .int .i64 (k : Nat) ∧ z = .int .i64 (rankFrom 0 (m.take k) : Nat))
  case atStart => exact ⟨rfl, 0, by omega, rfl, rfl⟩
  case round =>
    obtain ⟨rfl, k, hk0, rfl, rfl⟩ := hrel
    have HJ := Lib.hid hk0
    have hk : k ≤ len := by omega
    clear hk0 C
    have hq := HP.out k (by rw [HL.out]; exact hk)
    by_cases hlt : k < len
    · obtain ⟨x, hx⟩ : ∃ x, m[k]? = some x := ⟨_, List.getElem?_eq_getElem (by rw [HL.out]; exact hlt)⟩
      have hx2 : (nn m)[k]? = some (x : Int) := by unfold nn; rw [List.getElem?_map, hx]; rfl
      obtain ⟨b, off, ha, hbs, h0⟩ := HT.out.one (Below.refl _ _) (map_get hx2)
      have h30 := HA.out x (List.mem_of_getElem? hx)
      have HS := Lib.hid (rank_step hx)
      have D := choose_any x (k + 1) h30 (by omega)
      rw [show ((k + 1 : Nat) : Int) = (k : Int) + 1 from by omega] at D
      have D := Lib.hid D
      have hp := le_max (k + 1) h30
      subst ha
      clear hx hx2
      generalize rankFrom 0 (m.take k) = s at *
      generalize binom x (k + 1) = p at *
      go_wp2_with fail
      refine (D.out _).mono ?_
      rintro e w1 ⟨rfl, rfl⟩
      go_wp2
      go_roundg (len - (k + 1))
      case measure => have := HJ.out; omega
      case rel => exact ⟨rfl, k + 1, by omega, by go_num, by rw [HS.out]; go_num⟩
    · have HF : Hid (rankFrom 0 (m.take k) = rankFrom 0 m) := by rw [List.take_of_length_le (by rw [HL.out]; omega)]; exact Lib.hid rfl
      generalize rankFrom 0 (m.take k) = s at *
      go_wp2
      go_ret2
      exact ⟨ret_int2 (by rw [HF.out]), rfl⟩
set_option maxRecDepth 100000 in
set_option maxHeartbeats 1000000 in
theorem combRank_bad (a : Option Addr) (len cap : Nat) (l : List Int) (w : World) (h : Tab w a len cap 1 (l.map iC)) (hc : checkC l ≠ 0) :
    Calls Try.prog 40 #[.slice a len cap] w fun e w' => e = .returned (.tuple #[.int .i64 0, .int .i64 (checkC l)]) ∧ w = w' := by
  have C := Lib.hid (combCheck_any a len cap l w h)
  have t : ((checkC l : Int) != 0) = true := by simpa using hc
  clear hc h
  generalize checkC l = c at *
  go_enter Try.func40, Try.ntmps40
  go_wp2_with fail
  refine C.out.mono ?_
  rintro e w1 ⟨rfl, rfl⟩
  go_wp2
  go_ret2
  exact ⟨rfl, rfl⟩

end Go.Proofs.Ytoijeafhohcbdaa
