/- The contract of the laws' own weights (culkeep.weights), for few numbers. -/
import Derived.Test.YtfndahcihmpmhaaAliasSum
import Derived.Test.YtfndahcihmpmhaaWithin
import Derived.Test.YtfndahcihmpmhaaCloneInts
import Derived.Test.YtfndahcihmpmhaaOwnMore
import Derived.Test.YtfndahcihmpmhaaSubSlice
namespace Go.Proofs.Ytfndahcihmpmhaa
open Go.ChangeShapes Go.WideShapes Go.ChangeAt Go.RowKit

def weightsOf (l : List Int) : List Int := 1 :: l.map (fun x => withI x 21)
theorem weightsOf_bd {l : List Int} : ∀ x ∈ weightsOf l, 0 ≤ x ∧ x ≤ 20 := by
  intro x hx
  rcases List.mem_cons.1 hx with rfl | hx
  · omega
  · obtain ⟨y, _, rfl⟩ := List.mem_map.1 hx
    have := withI_bd y 21 (by omega)
    omega
theorem weightsOf_take {l : List Int} {k : Nat} {x : Int} (h : l[k]? = some x) : weightsOf (l.take (k + 1)) = weightsOf (l.take k) ++ [withI x 21] := by
  unfold weightsOf
  rw [List.take_add_one, h, List.map_append]; rfl
theorem weightsOf_len (l : List Int) : (weightsOf l).length = l.length + 1 := by simp [weightsOf]
theorem weightsOf_ok {l : List Int} (h : l.length ≤ 9) : weightsE (weightsOf l) = 0 := by
  have hz : ∀ x ∈ weightsOf l, 0 ≤ x ∧ x ≤ 1000000000000 := fun x hx => by have := weightsOf_bd x hx; omega
  unfold weightsE
  rw [if_neg (by rw [weightsOf_len]; omega), if_pos, if_neg]
  · have := (sum_bd (l := l.map (fun x => withI x 21)) (fun x hx => hz x (List.mem_cons_of_mem _ hx))).1
    unfold weightsOf
    rw [List.sum_cons]
    omega
  · refine List.all_eq_true.2 (fun x hx => ?_)
    unfold okW
    rw [Bool.and_eq_true, decide_eq_true_iff, decide_eq_true_iff]
    exact hz x hx
theorem size_int3 (w : World) : (sizeOf 3).run Try.prog w = .ok 1 w := by kernel_rfl
theorem elem_int3 : Try.prog.elem 22 = 3 := by kernel_rfl

set_option maxRecDepth 100000 in
set_option maxHeartbeats 1000000 in
theorem weights_any (a : Option Addr) (len cap : Nat) (l : List Int) (w : World) (h : Tab w a len cap 1 (l.map iC)) (ho : ∀ z ∈ l, wfI z) (h9 : len ≤ 9) :
    Calls Try.prog 32 #[.slice a len cap, .int .i64 20] w (RetRows w 3 1 ((weightsOf l).map iC)) := by
  have hl := h.hlen
  rw [List.length_map] at hl
  have hc := h.hle
  have rU := run_upto 22 3 1 Try.underlying22 elem_int3 size_int3 a len cap len (by omega)
  have HT := Lib.hid h
  have HL := Lib.hid hl
  have HO := Lib.hid ho
  have hO1 : Own (w.alloc (.cells #[.int .i64 1] 3)) w.heap.size 3 1 (.slice (some ⟨w.heap.size, 0, none⟩) 1 1) ((weightsOf (l.take 0)).map iC) :=
    Own.full (World.ownsRow_lit w #[.int .i64 1] 1 (Nat.le_refl _) (by decide) rfl) (by refine ⟨rfl, rfl, ?_⟩; intro r hr; simp [weightsOf, iC] at hr; subst hr; rfl)
  have HO1 := Lib.hid hO1
  have HB1 : Hid (Below w.heap.size w (w.alloc (.cells #[.int .i64 1] 3))) := Lib.hid ((Below.refl _ _).alloc (Nat.le_refl _) _)
  clear h hl ho hO1
  go_enter Try.func32, Try.ntmps32
  go_wp2_with fail
  go_loopg [5, 15] len (fun g v i wr => ∃ k : Nat, k + g = len ∧ i = .int .i64 k ∧ Hid (Own wr w.heap.size 3 1 v ((weightsOf (l.take k)).map iC)) ∧ Hid (Below w.heap.size w wr))
  case atStart => exact ⟨0, by omega, rfl, HO1, HB1⟩
  case round =>
    clear HO1 HB1
    obtain ⟨k, hk0, rfl, HV, HB⟩ := hrel
    have HJ := Lib.hid hk0
    have hk : k ≤ len := by omega
    clear hk0
    by_cases hlt : k < len
    · obtain ⟨x, hx⟩ : ∃ x, l[k]? = some x := ⟨_, List.getElem?_eq_getElem (by rw [HL.out]; exact hlt)⟩
      obtain ⟨b1, o1, ha, hbs, c0⟩ := HT.out.one HB.out (map_get hx)
      have hwx := wf_i64 (HO.out x (List.mem_of_getElem? hx))
      have HW := Lib.hid (fun w => within_int x 21 w hwx (by omega) (by omega))
      have HN := Lib.hid (weightsOf_take hx)
      have hvl : ((weightsOf (l.take k)).map iC).length ≤ 40 := by rw [List.length_map, weightsOf_len, List.length_take]; omega
      have HVL := Lib.hid hvl
      subst ha
      clear hx hvl
      generalize withI x 21 = y at *
      go_wp2_with fail
      refine (HW.out _).mono ?_
      rintro e w2 ⟨rfl, rfl⟩
      go_wp2_with (at_builtin; refine wpList_append_rows _ rfl _ _ 22 rfl w.heap.size 3 _ 1 8 Try.underlying22 info_int rfl (by decide) _ ((weightsOf (l.take k)).map iC) rfl (HV.out.alloc _) ⟨wr.heap.size, 0, none⟩ 1 1 [iC y] rfl rfl (by simp [iC]) (one_row wr (iC y) 3 _ rfl) (by simp [iC, Value.oneCell']) (by have := HVL.out; omega) (by decide) (Nat.le_trans HB.out.size (by simp)) ?_; intro v6 w6 hO6 hg6)
      go_roundg (len - (k + 1))
      case measure => have := HJ.out; omega
      case rel =>
        refine ⟨k + 1, by omega, by go_num, ?_, ?_⟩
        · rw [HN.out, List.map_append]; exact Lib.hid hO6
        · exact Lib.hid ((HV.out.alloc _).under (HB.out.alloc HB.out.size _) (Nat.le_refl _) (Nat.le_trans HB.out.size (by simp)) hg6)
    · obtain rfl : k = len := by omega
      have hv := HV.out
      rw [List.take_of_length_le (by rw [HL.out]; exact Nat.le_refl _)] at hv
      go_wp2
      go_ret
      exact ⟨_, rfl, hv, HB.out⟩
end Go.Proofs.Ytfndahcihmpmhaa
