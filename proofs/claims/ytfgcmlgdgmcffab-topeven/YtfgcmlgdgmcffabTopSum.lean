/- The contract of the laws' own sum (cultop.sum), for weights. -/
import Derived.Test.YtfgcmlgdgmcffabAliasSum
namespace Go.Proofs.Ytfgcmlgdgmcffab
open Go.ChangeShapes Go.WideShapes Go.ChangeAt Go.RowKit

set_option maxRecDepth 100000 in
set_option maxHeartbeats 1000000 in
theorem topSum_any (a : Option Addr) (len cap : Nat) (l : List Int) (w : World) (h : Tab w a len cap 1 (l.map iC)) (h40 : len ≤ 40) (hz : ∀ x ∈ l, 0 ≤ x ∧ x ≤ 1000000000000) :
    Calls Try.prog 14 #[.slice a len cap] w fun e w' => e = .returned (.int .i64 l.sum) ∧ w' = w := by
  have hl := h.hlen
  rw [List.length_map] at hl
  have HT := Lib.hid h
  have HL := Lib.hid hl
  have HZ := Lib.hid hz
  clear h hl hz
  obtain ⟨A, hA⟩ : ∃ A, l.sum = A := ⟨_, rfl⟩
  rw [hA]
  have HA := Lib.hid hA
  clear hA
  go_enter Try.func14, Try.ntmps14
  go_wp2_with fail
  go_loopg [3, 8] len (fun g al i wr => ∃ (k : Nat) (S : Int), k + g = len ∧ i = .int .i64 k ∧ al = .int .i64 S ∧ 0 ≤ S ∧ S ≤ (k : Int) * 1000000000000 ∧ Hid (S = (l.take k).sum) ∧ wr = w)
  case atStart => exact ⟨0, 0, by omega, rfl, rfl, by omega, by omega, Lib.hid rfl, rfl⟩
  case round =>
    obtain ⟨k, S, hk0, rfl, rfl, hS0, hS1, HS, rfl⟩ := hrel
    have HJ := Lib.hid hk0
    have hk : k ≤ len := by omega
    clear hk0
    by_cases hlt : k < len
    · obtain ⟨x, hx⟩ : ∃ x, l[k]? = some x := ⟨_, List.getElem?_eq_getElem (by rw [HL.out]; exact hlt)⟩
      obtain ⟨b1, o1, ha, hbs, c0⟩ := HT.out.one (Below.refl _ _) (map_get hx)
      have HN := Lib.hid (sum_take hx)
      have bx := HZ.out x (List.mem_of_getElem? hx)
      have bx1 := bx.1
      have bx2 := bx.2
      subst ha
      clear hx bx
      go_wp2_with fail
      go_roundg (len - (k + 1))
      case measure => have := HJ.out; omega
      case rel => exact ⟨k + 1, S + x, by omega, by go_num, by go_num, by omega, by omega, Lib.hid (by rw [HN.out, HS.out]), rfl⟩
    · obtain rfl : k = len := by omega
      obtain rfl : S = A := by rw [HS.out, List.take_of_length_le (by rw [HL.out]; omega)]; exact HA.out
      go_wp2
      go_ret
      exact ⟨rfl, rfl⟩
end Go.Proofs.Ytfgcmlgdgmcffab
