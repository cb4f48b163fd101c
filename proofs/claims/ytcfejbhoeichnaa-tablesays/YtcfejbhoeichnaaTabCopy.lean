/- The contract of the program's table.copyRows: rows of its own. -/
import Derived.Test.YtcfejbhoeichnaaTabCheck
import Derived.Test.YtcfejbhoeichnaaCloneInts
namespace Go.Proofs.Ytcfejbhoeichnaa
open Go.ChangeShapes Go.WideShapes Go.ChangeAt Go.RowKit
open Tbl

theorem info_slints : (Try.prog.info? 34).map (fun i => (i.zero, i.size, i.bytes)) = some (some (.slice none 0 0), 1, 24) := by kernel_rfl

namespace Tbl
theorem grid_split {l : List (Value × List Int)} {R : List (List Int)} {i n : Nat} (hl : l.length = i) (hi : i < n) : l ++ List.replicate (n - i) ((Value.slice none 0 0), ([] : List Int)) = l ++ (Value.slice none 0 0, []) :: List.replicate (n - (i + 1)) ((Value.slice none 0 0), ([] : List Int)) := by
  rw [show n - i = (n - (i + 1)) + 1 from by omega, List.replicate_succ]
end Tbl

set_option maxRecDepth 100000 in
set_option maxHeartbeats 2000000 in
theorem copyRows_any (a : Option Addr) (len cap : Nat) (R : List (List Int)) (P : Nat → Prop) (w : World) (hT : TTx w P a len cap R) (h1 : 1 ≤ len) (h4 : len ≤ 4) (h32 : ∀ r ∈ R, r.length ≤ 32) :
    Calls Try.prog 43 #[.slice a len cap] w fun e w' => ∃ (g c : Nat) (l : List (Value × List Int)), e = .returned (.slice (some ⟨g, 0, none⟩) len c) ∧ Grid w' w.heap.size (.slice (some ⟨g, 0, none⟩) len c) l ∧ l.map (fun p => p.2) = R ∧ Below w.heap.size w w' := by
  obtain ⟨i0, hi, hz0, hz1, hz2⟩ := info_parts info_slints
  have HI := Lib.hid (And.intro hi (And.intro hz0 (And.intro hz1 hz2)))
  have hl := hT.len
  have HL := Lib.hid hl
  have HT := Lib.hid hT
  have H32 := Lib.hid h32
  clear hi hz0 hz1 hz2 hl hT h32
  go_enter Try.func43, Try.ntmps43
  go_wp2_with (at_make; refine wpList_make_full _ rfl _ _ 37 rfl w.heap.size 34 i0 (.slice none 0 0) 1 Try.underlying37 HI.out.1 HI.out.2.1 HI.out.2.2.1 _ _ _ _ len rfl rfl rfl rfl (by rw [HI.out.2.2.2]; omega) (by unfold maxLen; omega) (Nat.le_refl _) ?_; intro w3 hO3 hg3)
  have hG := Grid.made hO3
  have hb3 : Below w.heap.size w w3 := (Below.refl _ _).grown hg3 (Nat.le_refl _) (fun j hj => by cases hj)
  have HG := Lib.hid hG
  have HB3 := Lib.hid hb3
  clear hO3 hg3 hG hb3 HI
  go_wp2_with fail
  go_loopg [11] len (fun n i wr => ∃ (k : Nat) (l : List (Value × List Int)), k + n = len ∧ i = .int .i64 k ∧ Hid (l.length = k ∧ l.map (fun p => p.2) = R.take k) ∧ Hid (Grid wr w.heap.size (.slice (some ⟨w.heap.size, 0, none⟩) len len) (l ++ List.replicate (len - k) ((Value.slice none 0 0), ([] : List Int)))) ∧ Hid (Below w.heap.size w wr))
  case atStart => exact ⟨0, [], by omega, rfl, Lib.hid ⟨rfl, rfl⟩, by simpa using HG, HB3⟩
  case round =>
    clear HG HB3
    obtain ⟨k, l, hk0, rfl, HLK, HG, HW⟩ := hrel
    have HJ := Lib.hid hk0
    have hk : k ≤ len := by omega
    clear hk0
    by_cases hlt : k < len
    · obtain ⟨q, hq⟩ : ∃ x, R[k]? = some x := ⟨_, List.getElem?_eq_getElem (by rw [HL.out]; exact hlt)⟩
      obtain ⟨b1, o1, qa, qn, qc, ha, hbs, c0, hTq, hqn, hqc, hqm⟩ := HT.out.row HW.out hq
      have hq32 := H32.out q (List.mem_of_getElem? hq)
      have hsp := grid_split (R := R) HLK.out.1 hlt
      have hG2 := HG.out
      rw [hsp] at hG2
      have HG2 := Lib.hid hG2
      have HC := Lib.hid (clone_ints qa qn qc q wr hTq (by omega))
      have HQ := Lib.hid hq
      obtain ⟨wo, hwo⟩ : ∃ wo, wo = wr := ⟨_, rfl⟩
      subst hwo
      subst ha
      clear hq hTq hqn hsp hG2 HG hq32
      go_wp2_with fail
      refine HC.out.mono ?_
      rintro e w1 ⟨u, rfl, hO, hb⟩
      obtain ⟨ua, uc, rfl, _⟩ := hO.tab
      generalize (q.map iC).length = un at *
      have hg1 := HG2.out.put hO hb
      rw [HLK.out.1] at hg1
      have hw1 := (below_on HW.out hb).setCell (p := ⟨w.heap.size, k, none⟩) (Nat.le_refl _) (.slice ua un uc)
      have hat := (HG2.out.below hb).at_ (i := l.length) (p := (.slice none 0 0, [])) (by rw [List.getElem?_append_right (Nat.le_refl _)]; simp)
      rw [HLK.out.1] at hat
      obtain ⟨d0, d1, _, _⟩ := hat
      have HG3 := Lib.hid hg1
      have HW1 := Lib.hid hw1
      clear hO hb hg1 hw1 HC HG2
      go_wp2_with fail
      go_roundg (len - (k + 1))
      case measure => have := HJ.out; omega
      case rel =>
        refine ⟨k + 1, l ++ [(.slice ua un uc, q)], by omega, by go_num, Lib.hid ⟨by rw [List.length_append, HLK.out.1]; rfl, ?_⟩, ?_, HW1⟩
        · rw [List.map_append, HLK.out.2, List.take_add_one, HQ.out]; rfl
        · rw [List.append_assoc]; exact HG3
    · obtain rfl : k = len := by omega
      have hG2 := HG.out
      rw [Nat.sub_self, List.replicate_zero, List.append_nil] at hG2
      have hlr := HLK.out.2
      rw [List.take_of_length_le (by rw [HL.out]; exact Nat.le_refl _)] at hlr
      have HG2 := Lib.hid hG2
      have HLR := Lib.hid hlr
      clear hG2 hlr
      go_wp2
      go_ret
      exact ⟨_, _, _, rfl, HG2.out, HLR.out, HW.out⟩
end Go.Proofs.Ytcfejbhoeichnaa
