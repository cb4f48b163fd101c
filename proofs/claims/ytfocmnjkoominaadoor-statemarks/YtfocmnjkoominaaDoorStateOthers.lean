/- Contracts of the program's state.others, state.markPairs and state.Set. -/
import Derived.Test.YtfocmnjkoominaaDoorStateMark
import Derived.Test.YtfocmnjkoominaaDoorSetMath
import Derived.Test.YtfocmnjkoominaaDoorOwnMore
import Derived.Test.YtfocmnjkoominaaDoorInfoPairs
namespace Go.Proofs.YtfocmnjkoominaaDoor
open Go.ChangeShapes Go.WideShapes Go.ChangeAt Go.RowKit
open StateMath

set_option maxRecDepth 100000 in
set_option maxHeartbeats 2000000 in
theorem others_any (a : Option Addr) (len cap : Nat) (L : List Pr) (w : World) (h : Tab w a len cap 2 (L.map ssC)) (h40 : len ≤ 40) :
    Calls Tryd.prog 14 #[.slice a len cap] w (RetRows w 31 2 ((othersOf L).map ssC)) := by
  have hmx := h.hmax
  have hle := h.hle
  have hl := h.hlen
  rw [List.length_map] at hl
  have HE : Hid (L.length ≤ len) := Nat.le_of_eq hl
  unfold maxLen at hmx
  have HL := Lib.hid h.hlen
  have HT := Lib.hid h
  clear h hl
  go_enter Tryd.func14, Tryd.ntmps14
  go_wp2
  go_loopg [3, 8] len (fun g v i wr => ∃ k : Nat, k + g = len ∧ i = .int .i64 k ∧ Hid (Own wr w.heap.size 31 2 v ((othersOf (L.take k)).map ssC)) ∧ Below w.heap.size w wr)
  case atStart => exact ⟨0, by omega, rfl, Own.nil _ _ _ _, Below.refl _ _⟩
  case round =>
    obtain ⟨k, hk0, rfl, HO, hb⟩ := hrel
    have HJ := Lib.hid hk0
    have hk : k ≤ len := by omega
    clear hk0
    have hsz := hb.size
    by_cases hlt : k < len
    · obtain ⟨⟨pk, pv⟩, hp⟩ := some_get HL.out hlt
      obtain ⟨b, off, ha, hbs, h0, h1⟩ := HT.out.two hb (map_get hp)
      have HP := Lib.hid (others_take L k _ hp)
      have hO := HO.out
      have hfew : (othersOf (L.take k)).length ≤ k := Nat.le_trans (others_le _) (by rw [List.length_take]; omega)
      have hlen2 : ((othersOf (L.take k)).map ssC).length ≤ k := by rw [List.length_map]; exact hfew
      subst ha
      clear hp hfew
      cases hpl : plainP (pk, pv)
      · have HN : Hid (othersOf (L.take (k + 1)) = othersOf (L.take k)) := by show _ = _; rw [HP.out, hpl]; simp
        have hd : (pk.toList == [116, 104]) = true ∨ (pk.toList == [114, 118]) = true := by
          unfold plainP at hpl
          rw [Lib.toList_data]
          cases h1 : (pk.data.toList == [116, 104]) <;> cases h2 : (pk.data.toList == [114, 118]) <;> simp [h1, h2] at hpl ⊢
        clear hpl hO
        rcases hd with t | t
        · have t' : (pk.toList != [116, 104]) = false := by rw [bne, t]; rfl
          go_wp2
          go_roundg (len - (k + 1))
          case measure => have := HJ.out; omega
          case rel => exact ⟨k + 1, by omega, by go_num, by rw [HN.out]; exact HO.out.alloc _, hb.alloc hsz _⟩
        · have t' : (pk.toList != [114, 118]) = false := by rw [bne, t]; rfl
          cases t2 : (pk.toList == [116, 104])
          · have t3 : (pk.toList != [116, 104]) = true := by rw [bne, t2]; rfl
            go_wp2
            go_roundg (len - (k + 1))
            case measure => have := HJ.out; omega
            case rel => exact ⟨k + 1, by omega, by go_num, by rw [HN.out]; exact HO.out.alloc _, hb.alloc hsz _⟩
          · have t3 : (pk.toList != [116, 104]) = false := by rw [bne, t2]; rfl
            go_wp2
            go_roundg (len - (k + 1))
            case measure => have := HJ.out; omega
            case rel => exact ⟨k + 1, by omega, by go_num, by rw [HN.out]; exact HO.out.alloc _, hb.alloc hsz _⟩
      · have HN : Hid ((othersOf (L.take (k + 1))).map ssC = (othersOf (L.take k)).map ssC ++ [[.string pk, .string pv]]) := by show _ = _; rw [HP.out, hpl, List.map_append]; rfl
        have hd : (pk.toList == [116, 104]) = false ∧ (pk.toList == [114, 118]) = false := by
          unfold plainP at hpl
          rw [Lib.toList_data]
          cases h1 : (pk.data.toList == [116, 104]) <;> cases h2 : (pk.data.toList == [114, 118]) <;> simp [h1, h2] at hpl ⊢
        obtain ⟨t1, t2⟩ := hd
        have t3 : (pk.toList != [116, 104]) = true := by rw [bne, t1]; rfl
        have t4 : (pk.toList != [114, 118]) = true := by rw [bne, t2]; rfl
        clear hpl
        generalize (othersOf (L.take k)).map ssC = R at *
        go_wp2_with (first | (at_builtin; refine wpList_append_rows _ rfl _ _ 22 rfl w.heap.size 31 _ 2 32 Tryd.underlying22 info_pair rfl (by decide) _ R rfl ((hO.alloc _).alloc _) ⟨wr.heap.size + 1, 0, none⟩ 1 1 [[.string pk, .string pv]] rfl rfl (by simp) (one_row _ _ _ _ (by simp)) (by simp [Value.oneCell']) (by omega) (by decide) (by simp; omega) ?_; intro v' w1 hO1 hg1))
        go_roundg (len - (k + 1))
        case measure => have := HJ.out; omega
        case rel => exact ⟨k + 1, by omega, by go_num, by rw [HN.out]; exact hO1, ((hO.alloc _).alloc _).under ((hb.alloc hsz _).alloc (by simp; omega) _) (Nat.le_refl _) (by simp; omega) hg1⟩
    · have HN : Hid (othersOf L = othersOf (L.take k)) := by show _ = _; rw [List.take_of_length_le (by have := HE.out; omega)]
      go_wp2
      go_ret
      exact ⟨_, rfl, by rw [HN.out]; exact HO.out, hb⟩
end Go.Proofs.YtfocmnjkoominaaDoor
