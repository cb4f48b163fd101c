/- The contract of the laws' own weights (culkeep.weights), for any numbers and any greatest weight up to a million. -/
import Derived.Test.YteddoccgbebbeaaAliasSum
import Derived.Test.YteddoccgbebbeaaWithin
import Derived.Test.YteddoccgbebbeaaCloneInts
import Derived.Test.YteddoccgbebbeaaOwnMore
import Derived.Test.YteddoccgbebbeaaSubSlice
import Derived.Deep.DeepCutAuto
namespace Go.Proofs.Yteddoccgbebbeaa
open Go.ChangeShapes Go.WideShapes Go.ChangeAt Go.RowKit

def weightsM (m : Int) (l : List Int) : List Int := 1 :: l.map (fun x => withI x (m + 1))
theorem weightsM_bd {m : Int} (hm : 1 ≤ m) {l : List Int} : ∀ x ∈ weightsM m l, 0 ≤ x ∧ x ≤ m := by
  intro x hx
  rcases List.mem_cons.1 hx with rfl | hx
  · omega
  · obtain ⟨y, _, rfl⟩ := List.mem_map.1 hx
    have := withI_bd y (m + 1) (by omega)
    omega
theorem weightsM_take {m : Int} {l : List Int} {k : Nat} {x : Int} (h : l[k]? = some x) : weightsM m (l.take (k + 1)) = weightsM m (l.take k) ++ [withI x (m + 1)] := by
  unfold weightsM
  rw [List.take_add_one, h, List.map_append]; rfl
theorem weightsM_len (m : Int) (l : List Int) : (weightsM m l).length = l.length + 1 := by simp [weightsM]
theorem weightsM_pos {m : Int} (hm : 1 ≤ m) (h2 : m ≤ 1000000) {l : List Int} : 1 ≤ (weightsM m l).sum := by
  have hz : ∀ x ∈ weightsM m l, 0 ≤ x ∧ x ≤ 1000000000000 := fun x hx => by have := weightsM_bd hm x hx; omega
  have := (sum_bd (l := l.map (fun x => withI x (m + 1))) (fun x hx => hz x (List.mem_cons_of_mem _ hx))).1
  unfold weightsM
  rw [List.sum_cons]
  omega
theorem weights_ok {l : List Int} (hl : l.length ≤ 40) (hz : ∀ x ∈ l, 0 ≤ x ∧ x ≤ 1000000000000) (hs : l.sum ≠ 0) : weightsE l = 0 := by
  unfold weightsE
  rw [if_neg (by omega), if_pos, if_neg hs]
  refine List.all_eq_true.2 (fun x hx => ?_)
  unfold okW
  rw [Bool.and_eq_true, decide_eq_true_iff, decide_eq_true_iff]
  exact hz x hx
theorem weightsM_ok {m : Int} (hm : 1 ≤ m) (h2 : m ≤ 1000000) {l : List Int} (h : l.length ≤ 39) : weightsE (weightsM m l) = 0 :=
  weights_ok (by rw [weightsM_len]; omega) (fun x hx => by have := weightsM_bd hm x hx; omega) (by have := weightsM_pos hm h2 (l := l); omega)
theorem size_int4 (w : World) : (sizeOf 3).run Try.prog w = .ok 1 w := by kernel_rfl
theorem elem_int4 : Try.prog.elem 22 = 3 := by kernel_rfl

set_option maxRecDepth 100000 in
set_option maxHeartbeats 1000000 in
theorem weightsM_any (a : Option Addr) (len cap : Nat) (l : List Int) (most : Int) (w : World) (h : Tab w a len cap 1 (l.map iC)) (ho : ∀ z ∈ l, wfI z) (m0 : 1 ≤ most) (m1 : most ≤ 1000000) :
    Calls Try.prog 32 #[.slice a len cap, .int .i64 most] w (RetRows w 3 1 ((weightsM most (l.take 39)).map iC)) := by
  have hl := h.hlen
  rw [List.length_map] at hl
  have hc := h.hle
  have hm := h.hmax
  unfold maxLen at hm
  obtain ⟨n, hn⟩ : ∃ n, min len 39 = n := ⟨_, rfl⟩
  have hn1 : n ≤ len := by omega
  have hn2 : n ≤ 39 := by omega
  have rU := run_upto 22 3 1 Try.underlying22 elem_int4 size_int4 a len cap n (by omega)
  have HT := Lib.hid h
  have HL := Lib.hid hl
  have HO := Lib.hid ho
  have HTK : Hid (l.take 39 = l.take n) := Lib.hid (by
    by_cases c : len ≤ 39
    · rw [show n = len by omega, List.take_of_length_le (by omega), List.take_of_length_le (by omega)]
    · rw [show n = 39 by omega])
  rw [HTK.out]
  have hO1 : Own (w.alloc (.cells #[.int .i64 1] 3)) w.heap.size 3 1 (.slice (some ⟨w.heap.size, 0, none⟩) 1 1) ((weightsM most (l.take 0)).map iC) :=
    Own.full (World.ownsRow_lit w #[.int .i64 1] 1 (Nat.le_refl _) (by decide) rfl) (by refine ⟨rfl, rfl, ?_⟩; intro r hr; simp [weightsM, iC] at hr; subst hr; rfl)
  have HO1 := Lib.hid hO1
  have HB1 : Hid (Below w.heap.size w (w.alloc (.cells #[.int .i64 1] 3))) := Lib.hid ((Below.refl _ _).alloc (Nat.le_refl _) _)
  clear h hl ho hO1 HTK
  go_enter Try.func32, Try.ntmps32
  go_upto_region 2 with fail
  go_cut [13, 14, 15] (fun s t i wx => s = .slice a n cap ∧ t = .int .i64 n ∧ i = .int .i64 0 ∧ wx = w.alloc (.cells #[.int .i64 1] 3))
  case first =>
    by_cases h9 : len ≤ 39
    · obtain rfl : n = len := by omega
      clear hn
      go_wp2_with fail
      go_meet
      case rel => exact ⟨rfl, rfl, rfl, rfl⟩
    · obtain rfl : n = 39 := by omega
      have h9' : 39 < len := by omega
      clear hn h9
      go_wp2_with fail
      go_meet
      case rel => exact ⟨rfl, rfl, rfl, rfl⟩
  case rest =>
  obtain ⟨rfl, rfl, rfl, rfl⟩ := hcut
  clear rU hn
  go_wp2_with fail
  go_loopg [5, 15] n (fun g v i wr => ∃ k : Nat, k + g = n ∧ i = .int .i64 k ∧ Hid (Own wr w.heap.size 3 1 v ((weightsM most (l.take k)).map iC)) ∧ Hid (Below w.heap.size w wr))
  case atStart => exact ⟨0, by omega, rfl, HO1, HB1⟩
  case round =>
    clear HO1 HB1
    obtain ⟨k, hk0, rfl, HV, HB⟩ := hrel
    have HJ := Lib.hid hk0
    have hk : k ≤ n := by omega
    clear hk0
    by_cases hlt : k < n
    · obtain ⟨x, hx⟩ : ∃ x, l[k]? = some x := ⟨_, List.getElem?_eq_getElem (by rw [HL.out]; omega)⟩
      obtain ⟨b1, o1, ha, hbs, c0⟩ := HT.out.one HB.out (map_get hx)
      have hwx := wf_i64 (HO.out x (List.mem_of_getElem? hx))
      have HW := Lib.hid (fun w => within_int x (most + 1) w hwx (by omega) (by omega))
      have HN := Lib.hid (weightsM_take (m := most) hx)
      have HVL : Hid (((weightsM most (l.take k)).map iC).length ≤ 40) := Lib.hid (by rw [List.length_map, weightsM_len, List.length_take]; omega)
      subst ha
      clear hx
      generalize withI x (most + 1) = y at *
      go_wp2_with fail
      refine (HW.out _).mono ?_
      rintro e w2 ⟨rfl, rfl⟩
      go_wp2_with (at_builtin; refine wpList_append_rows _ rfl _ _ 22 rfl w.heap.size 3 _ 1 8 Try.underlying22 info_int rfl (by decide) _ ((weightsM most (l.take k)).map iC) rfl (HV.out.alloc _) ⟨wr.heap.size, 0, none⟩ 1 1 [iC y] rfl rfl (by simp [iC]) (one_row wr (iC y) 3 _ rfl) (by simp [iC, Value.oneCell']) (by have := HVL.out; omega) (by decide) (Nat.le_trans HB.out.size (by simp)) ?_; intro v6 w6 hO6 hg6)
      go_roundg (n - (k + 1))
      case measure => have := HJ.out; omega
      case rel =>
        refine ⟨k + 1, by omega, by go_num, ?_, ?_⟩
        · rw [HN.out, List.map_append]; exact Lib.hid hO6
        · exact Lib.hid ((HV.out.alloc _).under (HB.out.alloc HB.out.size _) (Nat.le_refl _) (Nat.le_trans HB.out.size (by simp)) hg6)
    · obtain rfl : k = n := by omega
      go_wp2
      go_ret
      exact ⟨_, rfl, HV.out, HB.out⟩
end Go.Proofs.Yteddoccgbebbeaa
