/- The contract of the program's state.split. -/
import Derived.Test.YtanfkolcoaofdabDoorStateSplit
import Derived.Lib.SplitLaws
import Derived.Test.YtanfkolcoaofdabDoorOwnMore
import Derived.Deep.QuietTactic
import Derived.BigQuiet
import Derived.Deep.LoopGhost
namespace Go.Proofs.YtanfkolcoaofdabDoor
open Go.ChangeShapes Go.WideShapes Go.ChangeAt Go.RowKit
open StateMath

namespace StateMath
theorem split_size (sep : ByteArray) (k : Nat) (s q : ByteArray) (h : q ∈ Lib.splitB sep 0 k s) : q.size ≤ s.size := by
  induction k generalizing s with
  | zero =>
    rw [Lib.splitB_zero] at h
    rw [List.mem_singleton.1 h]
    exact Nat.le_refl _
  | succ k ih =>
    rw [Lib.splitB] at h
    split at h
    · rw [List.mem_singleton.1 h]
      exact Nat.le_refl _
    · rcases List.mem_cons.1 h with rfl | h
      · rw [ByteArray.size_extract]; omega
      · have := ih _ h
        rw [ByteArray.size_extract] at this
        omega
theorem parts_len (s : ByteArray) : (partsOf s).length = Lib.countB s ⟨#[44]⟩ + 1 := Lib.splitB_all _ (by decide) 0 _ s rfl
theorem count_small (s : ByteArray) : Lib.countB s ⟨#[44]⟩ ≤ s.size := Lib.countB_le _ (by decide) s.size s (Nat.le_refl _)
end StateMath

set_option maxRecDepth 100000 in
set_option maxHeartbeats 2000000 in
theorem split_any (s : ByteArray) (m : Int) (w : World) (hs : s.size ≤ 200) (h0 : 0 < s.size) (hm : w.cell? ⟨2, 0, none⟩ = some (.int .i64 m)) (hw : 2 < w.heap.size) :
    Calls Tryd.prog 36 #[.string s] w fun e w' => ∃ v, e = .returned (.tuple #[v, .bool (cutAll (partsOf s)).isSome]) ∧ Own w' w.heap.size 45 2 v (((cutAll (partsOf s)).getD []).map ssC) ∧ Below w.heap.size w w' := by
  have t0 : s.toList.isEmpty = false := by
    rw [Lib.toList_data]
    have := len_list s
    cases hl : s.data.toList with
    | nil => rw [hl] at this; simp at this; omega
    | cons a t => rfl
  have HS := Lib.hid (strings_Split s ⟨#[44]⟩ m w (by omega) hm (by decide))
  have hn1 := count_small s
  have HPl := Lib.hid (parts_len s)
  have HPs := Lib.hid (fun q (hq : q ∈ partsOf s) => split_size _ _ s q hq)
  have HP : Hid (Lib.splitB ⟨#[44]⟩ 0 (Lib.countB s ⟨#[44]⟩) s = partsOf s) := rfl
  rw [HP.out] at HS
  have HM := Lib.hid hm
  clear hm HP
  generalize Lib.countB s ⟨#[44]⟩ = n at *
  generalize partsOf s = Q at *
  go_enter Tryd.func36, Tryd.ntmps36
  go_wp2_with fail
  refine HS.out.mono ?_
  rintro e w1 ⟨rfl, hw1⟩
  have hb1 : Below w.heap.size w w1 := by rw [hw1]; exact (Below.refl _ _).alloc (Nat.le_refl _) _
  have HCl : Hid (∀ j q, Q[j]? = some q → w1.cell? ⟨w.heap.size, j, none⟩ = some (.string q)) := by
    refine Lib.hid ?_
    intro j q hj
    rw [hw1, World.cell?_alloc_at _ _ _ _ rfl]
    show (Q.map Value.string).toArray[j]? = _
    rw [List.getElem?_toArray, List.getElem?_map, hj]
    rfl
  have hlt1 : w.heap.size < w1.heap.size := by rw [hw1]; simp
  clear hw1 HS
  go_wp2
  go_loopg [4, 15] (n + 1) (fun g v i wr => ∃ (k : Nat) (R : List Pr), k + g = n + 1 ∧ i = .int .i64 k ∧ Hid (cutAll (Q.take k) = some R) ∧ Hid (Own wr w1.heap.size 45 2 v (R.map ssC)) ∧ Below w1.heap.size w1 wr)
  case atStart => exact ⟨0, [], by omega, rfl, rfl, Own.nil _ _ _ _, Below.refl _ _⟩
  case round =>
    obtain ⟨k, R, hk0, rfl, HR, HO, hb⟩ := hrel
    have HJ := Lib.hid hk0
    have hk : k ≤ n + 1 := by omega
    clear hk0
    have hsz := hb.size
    by_cases hlt : k < n + 1
    · obtain ⟨q, hq⟩ : ∃ q, Q[k]? = some q := ⟨Q[k]'(by rw [HPl.out]; exact hlt), List.getElem?_eq_getElem _⟩
      have hcell : wr.cell? ⟨w.heap.size, k, none⟩ = some (.string q) := (hb.cell (p := ⟨w.heap.size, k, none⟩) hlt1).trans (HCl.out k q hq)
      have hqs : q.size ≤ 200 := Nat.le_trans (HPs.out q (List.mem_of_getElem? hq)) hs
      have hcm : wr.cell? ⟨2, 0, none⟩ = some (.int .i64 m) := ((below_on hb1 hb).cell (p := ⟨2, 0, none⟩) hw).trans HM.out
      have HCut := Lib.hid (strings_Cut q ⟨#[61]⟩ m wr (by omega) hcm)
      have HTk : Hid (Q.take (k + 1) = Q.take k ++ [q]) := by show _ = _; rw [List.take_add_one, hq]; rfl
      have hRl : R.length ≤ k := by rw [cutAll_len _ _ HR.out, List.length_take]; omega
      have HQd : Hid (Q = Q.take (k + 1) ++ Q.drop (k + 1)) := Lib.hid (List.take_append_drop _ _).symm
      clear hcm hq
      have HC0 : Hid (cutP q = if (Lib.cut q.data.toList [61]).2.2 = true then some (⟨(Lib.cut q.data.toList [61]).1.toArray⟩, ⟨(Lib.cut q.data.toList [61]).2.1.toArray⟩) else none) := rfl
      have e61 : (⟨#[61]⟩ : ByteArray).data.toList = [61] := rfl
      rw [e61] at HCut
      clear e61
      generalize Lib.cut q.data.toList [61] = c at *
      obtain ⟨c1, c2, c3⟩ := c
      cases c3
      · have HF : Hid (cutAll Q = none) := by
          show _ = _
          have h1 : cutAll (Q.take (k + 1)) = none := by rw [HTk.out, cutAll_snoc, HR.out, HC0.out]; rfl
          rw [HQd.out]
          exact cutAll_none _ _ h1
        go_wp2_with fail
        refine HCut.out.mono ?_
        rintro e w2 ⟨rfl, nd, rfl⟩
        go_wp2
        go_ret2
        exact ⟨_, by rw [HF.out]; rfl, by rw [HF.out]; exact Own.nil _ _ _ _, below_drewN (below_on hb1 hb) _⟩
      · have HN : Hid (cutAll (Q.take (k + 1)) = some (R ++ [(⟨c1.toArray⟩, ⟨c2.toArray⟩)])) := by show _ = _; rw [HTk.out, cutAll_snoc, HR.out, HC0.out]; rfl
        have hO := HO.out
        have hbd := fun nd => below_drewN hb nd
        have hOd := fun nd => hO.below (below_drewN (Below.refl wr.heap.size wr) nd)
        go_wp2_with fail
        refine HCut.out.mono ?_
        rintro e w2 ⟨rfl, nd, hw2⟩
        have hb2 : Below w1.heap.size w1 w2 := by rw [hw2]; exact hbd nd
        have hO2 := hOd nd
        rw [← hw2] at hO2
        clear hw2 hbd hOd hO HCut hcell
        have hs2 := hb2.size
        have hRl2 : (R.map ssC).length ≤ k := by rw [List.length_map]; exact hRl
        go_wp2_with (first | (at_builtin; refine wpList_append_rows _ rfl _ _ 30 rfl w1.heap.size 45 _ 2 32 Tryd.underlying30 info_pair rfl (by decide) _ (R.map ssC) rfl (hO2.alloc _) ⟨w2.heap.size, 0, none⟩ 1 1 [[.string ⟨c1.toArray⟩, .string ⟨c2.toArray⟩]] rfl rfl (by simp) (one_row _ _ _ _ (by simp)) (by simp [Value.oneCell']) (by omega) (by decide) (by simp; omega) ?_; intro v' w8 hO8 hg8))
        go_roundg (n + 1 - (k + 1))
        case measure => have := HJ.out; omega
        case rel => exact ⟨k + 1, _, by omega, by go_num, HN, Lib.hid (by rw [List.map_append]; exact hO8), (hO2.alloc _).under (hb2.alloc hs2 _) (Nat.le_refl _) (by simp; omega) hg8⟩
    · have HF : Hid (cutAll Q = some R) := by show _ = _; rw [← HR.out, List.take_of_length_le (by rw [HPl.out]; omega)]
      go_wp2
      go_ret2
      exact ⟨_, by rw [HF.out]; rfl, by rw [HF.out]; exact HO.out.base_le (by omega), below_on hb1 hb⟩
end Go.Proofs.YtanfkolcoaofdabDoor
