/- The contract of slices.Compare on slices of int: the order of their elements, one behind the other. -/
import Derived.Test.YtanfkolcoaofdaaShelf
import Derived.Test.YtanfkolcoaofdaaShapes
import Derived.Test.YtanfkolcoaofdaaDigitMath
import Derived.Test.YtanfkolcoaofdaaBase
import Derived.Deep.LoopGhost
namespace Go.Proofs.Ytanfkolcoaofdaa
open Go.ChangeShapes Go.WideShapes Go.ChangeAt Go.RowKit
open Digit

theorem cmp_at {l m : List Int} {k : Nat} {x y : Int} (hx : l[k]? = some x) (hy : m[k]? = some y) : cmpL (l.drop k) (m.drop k) = if x < y then -1 else if y < x then 1 else cmpL (l.drop (k + 1)) (m.drop (k + 1)) := by
  obtain ⟨h1, rfl⟩ := List.getElem?_eq_some_iff.1 hx
  obtain ⟨h2, rfl⟩ := List.getElem?_eq_some_iff.1 hy
  rw [List.drop_eq_getElem_cons h1, List.drop_eq_getElem_cons h2, cmpL]
theorem cmp_more {l m : List Int} {k : Nat} (h1 : k < l.length) (h2 : m.length ≤ k) : cmpL (l.drop k) (m.drop k) = 1 := by
  rw [List.drop_eq_getElem_cons h1, List.drop_of_length_le h2, cmpL]
theorem cmp_less {l m : List Int} {k : Nat} (h1 : l.length ≤ k) (h2 : k < m.length) : cmpL (l.drop k) (m.drop k) = -1 := by
  rw [List.drop_eq_getElem_cons h2, List.drop_of_length_le h1, cmpL]
theorem cmp_same {l m : List Int} {k : Nat} (h1 : l.length ≤ k) (h2 : m.length ≤ k) : cmpL (l.drop k) (m.drop k) = 0 := by
  rw [List.drop_of_length_le h2, List.drop_of_length_le h1, cmpL]

set_option maxRecDepth 100000 in
set_option maxHeartbeats 1000000 in
theorem compare_ints (a b : Option Addr) (la ca lb cb : Nat) (l m : List Int) (w : World) (h1 : Tab w a la ca 1 (l.map iC)) (h2 : Tab w b lb cb 1 (m.map iC)) :
    Calls Try.prog 35 #[.slice a la ca, .slice b lb cb] w fun e w' => e = .returned (.int .i64 (cmpL l m)) ∧ w = w' := by
  have l1 := h1.hlen
  have l2 := h2.hlen
  have m1 := h1.hmax
  have e1 := h1.hle
  have m2 := h2.hmax
  have e2 := h2.hle
  rw [List.length_map] at l1 l2
  unfold maxLen at m1 m2
  have H1 := Lib.hid h1
  have H2 := Lib.hid h2
  have L1 := Lib.hid l1
  have L2 := Lib.hid l2
  clear h1 h2 l1 l2
  go_enter Try.func35, Try.ntmps35
  go_wp2
  go_loopg [11] la (fun g i wr => wr = w ∧ ∃ k : Nat, k + g = la ∧ k ≤ lb ∧ i = .int .i64 k ∧ Hid (cmpL l m = cmpL (l.drop k) (m.drop k)))
  case atStart => exact ⟨rfl, 0, by omega, by omega, rfl, Lib.hid rfl⟩
  case round =>
    obtain ⟨rfl, k, hk0, hkb, rfl, HE⟩ := hrel
    have HJ := Lib.hid hk0
    have hk : k ≤ la := by omega
    clear hk0
    by_cases hlt : k < la
    · obtain ⟨x, hx⟩ : ∃ x, l[k]? = some x := ⟨_, List.getElem?_eq_getElem (by rw [L1.out]; exact hlt)⟩
      obtain ⟨b1, o1, ha, hbs, c1⟩ := H1.out.one (Below.refl _ _) (map_get hx)
      subst ha
      by_cases hlb : k < lb
      · obtain ⟨y, hy⟩ : ∃ y, m[k]? = some y := ⟨_, List.getElem?_eq_getElem (by rw [L2.out]; exact hlb)⟩
        obtain ⟨b2, o2, hc, hbt, c2⟩ := H2.out.one (Below.refl _ _) (map_get hy)
        subst hc
        have HC := Lib.hid (cmp_at hx hy)
        have D := cmp_Compare_int x y
        unfold Lib.compareInt at D
        clear hx hy
        by_cases r1 : x < y
        · have HF : Hid (cmpL l m = -1) := by rw [HE.out, HC.out, if_pos r1]; exact Lib.hid rfl
          rw [if_pos r1] at D
          have D := Lib.hid D
          clear r1
          go_wp2_with fail
          refine (D.out _).mono ?_
          rintro e w1 ⟨rfl, rfl⟩
          go_wp2
          go_ret
          exact ⟨ret_int HF.out.symm, rfl⟩
        · rw [if_neg r1] at D
          by_cases r2 : y < x
          · have HF : Hid (cmpL l m = 1) := by rw [HE.out, HC.out, if_neg r1, if_pos r2]; exact Lib.hid rfl
            rw [if_pos r2] at D
            have D := Lib.hid D
            clear r1 r2
            go_wp2_with fail
            refine (D.out _).mono ?_
            rintro e w1 ⟨rfl, rfl⟩
            go_wp2
            go_ret
            exact ⟨ret_int HF.out.symm, rfl⟩
          · have HF : Hid (cmpL l m = cmpL (l.drop (k + 1)) (m.drop (k + 1))) := by rw [HE.out, HC.out, if_neg r1, if_neg r2]; exact Lib.hid rfl
            rw [if_neg r2] at D
            have D := Lib.hid D
            clear r1 r2
            go_wp2_with fail
            refine (D.out _).mono ?_
            rintro e w1 ⟨rfl, rfl⟩
            go_wp2
            go_roundg (la - (k + 1))
            case measure => have := HJ.out; omega
            case rel => exact ⟨rfl, k + 1, by omega, by omega, by go_num, HF⟩
      · have HF : Hid (cmpL l m = 1) := by rw [HE.out, cmp_more (by rw [L1.out]; exact hlt) (by rw [L2.out]; omega)]; exact Lib.hid rfl
        have hlb' : lb ≤ k := by omega
        clear hx hlb
        go_wp2
        go_ret
        exact ⟨ret_int HF.out.symm, rfl⟩
    · have hk2 : k = la := by omega
      by_cases hlb : la < lb
      · have HF : Hid (cmpL l m = -1) := by rw [HE.out, cmp_less (by rw [L1.out]; omega) (by rw [L2.out]; omega)]; exact Lib.hid rfl
        clear hk2
        go_wp2
        go_ret
        exact ⟨ret_int HF.out.symm, rfl⟩
      · have HF : Hid (cmpL l m = 0) := by rw [HE.out, cmp_same (by rw [L1.out]; omega) (by rw [L2.out]; omega)]; exact Lib.hid rfl
        have hlb' : lb ≤ la := by omega
        clear hk2 hlb
        go_wp2
        go_ret
        exact ⟨ret_int HF.out.symm, rfl⟩

end Go.Proofs.Ytanfkolcoaofdaa
