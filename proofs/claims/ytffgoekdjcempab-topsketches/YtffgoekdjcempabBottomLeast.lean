/- The contract of the program's bottom.least. -/
import Derived.Test.YtffgoekdjcempabGr18
import Derived.Test.YtffgoekdjcempabGr19
import Derived.Test.YtffgoekdjcempabGr6
import Derived.Test.YtffgoekdjcempabGr11
import Derived.Test.YtffgoekdjcempabLit
import Derived.Deep.DeepCutAuto
namespace Go.Proofs.Ytffgoekdjcempab
open Go.ChangeShapes Go.WideShapes Go.ChangeAt Go.RowKit
open Least

theorem size_intB (w : World) : (sizeOf 3).run Try.prog w = .ok 1 w := by kernel_rfl
theorem elem_intB : Try.prog.elem 53 = 3 := by kernel_rfl
theorem cut_T (k : Nat) (l : List Int) : (uniq l).take (min k (uniq l).length) = T k l := by
  unfold T
  by_cases h : k ≤ (uniq l).length
  · rw [Nat.min_eq_left h]
  · rw [Nat.min_eq_right (by omega), List.take_of_length_le (Nat.le_refl _), List.take_of_length_le (by omega)]

set_option maxRecDepth 100000 in
set_option maxHeartbeats 2000000 in
theorem least_any (k : Nat) (a b : Option Addr) (len cap len2 cap2 : Nat) (l m : List Int) (w : World) (h : Tab w a len cap 1 (l.map iC)) (h2 : Tab w b len2 cap2 1 (m.map iC)) (hk : k ≤ 40) (hb1 : len ≤ 1000) (hb2 : len2 ≤ 1000) :
    Calls Try.prog 65 #[.int .i64 k, .slice a len cap, .slice b len2 cap2] w (RetRows w 3 1 ((T k (l ++ m)).map iC)) := by
  have hl := h.hlen
  rw [List.length_map] at hl
  have hl2 := h2.hlen
  rw [List.length_map] at hl2
  have hl0 : l.length = len := hl
  have hl20 : m.length = len2 := hl2
  have hba : Below w.heap.size w (w.alloc (.cells #[.slice a len cap, .slice b len2 cap2] 53)) := (Below.refl _ _).alloc (Nat.le_refl _) _
  have C0 := concat_ints (some ⟨w.heap.size, 0, none⟩) 2 2 [⟨a, len, cap, l⟩, ⟨b, len2, cap2, m⟩] (w.alloc (.cells #[.slice a len cap, .slice b len2 cap2] 53)) (tab_lit w 53 1 2 _ #[.slice a len cap, .slice b len2 cap2] rfl rfl (by intro r hr; simp [slC] at hr; rcases hr with rfl | rfl <;> rfl) (by decide) _ rfl) (by intro s hs; simp at hs; rcases hs with rfl | rfl; exact h.below hba; exact h2.below hba) (by simp; omega)
  rw [show ([⟨a, len, cap, l⟩, ⟨b, len2, cap2, m⟩] : List (Sl Int)).flatMap (·.l) = l ++ m from by simp] at C0
  have hL : (l ++ m).length ≤ 2000 := by rw [List.length_append]; omega
  have C1 := Lib.hid C0
  have HL := Lib.hid hL
  have HBA := Lib.hid hba
  clear C0 hba h h2 hl hl2 hl0 hl20 hL hb1 hb2
  generalize l ++ m = L at *
  go_enter Try.func65, Try.ntmps65
  go_wp2_with fail
  refine C1.out.mono ?_
  rintro e w1 ⟨v1, rfl, hO1, hb1⟩
  have hO1' := hO1.base_le (B := w.heap.size) HBA.out.size
  have C2 := Lib.hid (sort_own hO1' (by have := HL.out; omega))
  have HO1 := Lib.hid hO1'
  have HB1 := Lib.hid (below_on HBA.out hb1)
  clear hO1 hO1' hb1 C1 HBA
  go_wp2_with fail
  refine C2.out.mono ?_
  rintro e w2 ⟨rfl, hO2, hg2⟩
  have HB2 := Lib.hid (HO1.out.under HB1.out (Nat.le_refl _) HB1.out.size hg2)
  have C3 := compact_own hO2 (by rw [sortI_len]; have := HL.out; omega) (by rw [compact_sort, sortI_len]; exact uniq_lenle L)
  rw [compact_sort] at C3
  have C4 := Lib.hid C3
  have HO2 := Lib.hid hO2
  clear hO2 hg2 C2 HB1 HO1 C3
  go_wp2_with fail
  refine C4.out.mono ?_
  rintro e w3 ⟨v3, rfl, hO3, hg3⟩
  have HB3 := Lib.hid (HO2.out.under HB2.out (Nat.le_refl _) HB2.out.size hg3)
  obtain ⟨q, cq, rfl, hT3⟩ := hO3.tab
  have hle3 := hT3.hle
  have hm3 := hT3.hmax
  rw [List.length_map] at hO3 hle3 ⊢
  unfold maxLen at hm3
  have HCT := Lib.hid (cut_T k L)
  have HU := Lib.hid (uniq_lenle L)
  obtain ⟨n, hn⟩ : ∃ n, (uniq L).length = n := ⟨_, rfl⟩
  rw [hn] at hO3 hle3 HCT HU ⊢
  have hn2 : n ≤ 2000 := by have := HU.out; have := HL.out; omega
  obtain ⟨t, ht⟩ : ∃ t, min k n = t := ⟨_, rfl⟩
  rw [ht] at HCT
  have ht1 : t ≤ n := by omega
  have hO4 := hO3.pop ht1
  rw [HCT.out] at hO4
  have HO4 := Lib.hid hO4
  have rU := run_upto 53 3 1 Try.underlying53 elem_intB size_intB q n cq t (by omega)
  clear hO3 hO4 hT3 hg3 C4 HO2 HB2 hn HU HCT HL
  have HTT : Hid ((min (k : Int) (n : Int)).toNat = t) := Lib.hid (by omega)
  clear ht rU
  go_wp2
  go_ret
  exact ⟨_, rfl, by show Own w3 _ _ _ (.slice q (min (k : Int) (n : Int)).toNat cq) _; rw [HTT.out]; exact HO4.out, HB3.out⟩
end Go.Proofs.Ytffgoekdjcempab
