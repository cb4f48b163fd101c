/- The contract of slices.Repeat on a slice of one false. -/
import Derived.Test.YtffgoekdjcempabRepeatZero
import Derived.Test.YtffgoekdjcempabInfoBools
namespace Go.Proofs.Ytffgoekdjcempab
open Go.ChangeShapes Go.WideShapes Go.ChangeAt Go.RowKit

theorem flat_bools9 (l : List Bool) : (l.map bC).flatten = l.map Value.bool := by
  induction l with
  | nil => rfl
  | cons x l ih => rw [List.map_cons, List.flatten_cons, ih]; rfl
theorem made_bools9 (n : Nat) : ((List.replicate n false).map bC).length = n ∧ ((List.replicate n false).map bC).flatten = (madeCells (Value.bool false).cells (n * 1)).toList ∧ ∀ r ∈ (List.replicate n false).map bC, r.length = 1 := by
  refine ⟨by simp, ?_, ?_⟩
  · rw [flat_bools9, Nat.mul_one]
    apply List.ext_getElem?
    intro i
    simp [madeCells, Value.cells, List.getElem?_replicate]
    by_cases h : i < n
    · rw [if_pos h, List.getElem?_eq_getElem (by simpa using h)]
      simp [Nat.mod_one]
    · rw [if_neg h, List.getElem?_eq_none (by simpa using h)]
      rfl
  · intro r hr
    obtain ⟨x, _, rfl⟩ := List.mem_map.1 hr
    rfl
def falsesV (n : Nat) : List Value := List.replicate n (.bool false)
theorem falsesV_flat (n : Nat) : ((List.replicate n false).map bC).flatten = falsesV n := by rw [flat_bools9, List.map_replicate]; rfl
theorem falsesV_len (n : Nat) : (falsesV n).length = n := by simp [falsesV]
theorem falsesV_splice {n off m : Nat} (h : off + m ≤ n) : splice (falsesV n) off (falsesV m) = falsesV n := by
  unfold splice falsesV
  rw [List.take_replicate, List.length_replicate, List.drop_replicate, List.replicate_append_replicate, List.replicate_append_replicate]
  congr 1
  omega
theorem falsesV_one {m : Nat} : ∀ v ∈ falsesV m, v.oneCell' = true := by
  intro v hv
  rw [List.eq_of_mem_replicate hv]; rfl
theorem size_bool9 : (Try.prog.info? 4).map (·.size) = some 1 := by kernel_rfl
theorem size_bool5 (w : World) : (sizeOf 4).run Try.prog w = .ok 1 w := by kernel_rfl
theorem elem_bool5 : Try.prog.elem 22 = 4 := by kernel_rfl

set_option maxRecDepth 100000 in
set_option maxHeartbeats 2000000 in
theorem repeat_false (q : Option Addr) (cap n : Nat) (w : World) (h : Tab w q 1 cap 1 ([false].map bC)) (h1 : 1 ≤ n) (h2 : n ≤ 100) :
    Calls Try.prog 33 #[.slice q 1 cap, .int .i64 n] w (fun e w' => e = .returned (.slice (some ⟨w.heap.size, 0, none⟩) n n) ∧ Own w' w.heap.size 4 1 (.slice (some ⟨w.heap.size, 0, none⟩) n n) ((List.replicate n false).map bC) ∧ Below w.heap.size w w') := by
  have C := bits_Mul 1 n (by decide) (by omega) w
  rw [Nat.one_mul, Nat.div_eq_of_lt (by omega), Nat.mod_eq_of_lt (by omega)] at C
  obtain ⟨i0, hi, hz0, hz1, hz2⟩ := info_parts info_bool
  have HI := Lib.hid (And.intro hi (And.intro hz0 (And.intro hz1 hz2)))
  obtain ⟨b1, o1, ha, hbs, c0⟩ := h.one (Below.refl _ _) (show ([false].map bC)[0]? = some [Value.bool false] from rfl)
  have C := Lib.hid C
  subst ha
  clear hi hz0 hz1 hz2 h
  have HC0 := Lib.hid c0
  have hcm : ((n : Int) ≤ 9223372036854775807) := by omega
  clear c0
  go_enter Try.func33, Try.ntmps33
  go_wp2_with fail
  refine C.out.mono ?_
  rintro e w1 ⟨rfl, hw1⟩
  rw [hw1]
  clear hw1 C
  go_wp2_with (first
    | (at_make; refine wpList_make_full _ rfl _ _ 22 rfl w.heap.size 4 i0 (.bool false) 1 Try.underlying22 HI.out.1 HI.out.2.1 HI.out.2.2.1 _ _ _ _ n rfl rfl rfl rfl (by rw [HI.out.2.2.2]; omega) (by unfold maxLen; omega) (Nat.le_refl _) ?_; intro w3 hO3 hg3; have HO3 := Lib.hid (own_heap (Own.full hO3 (made_bools9 n))); have HB3 := Lib.hid ((Below.refl _ _).grown hg3 (Nat.le_refl _) (fun j hj => by cases hj)); clear hO3 hg3)
    | (refine wpList_copy_splice (o := ⟨some 33, _, _, _, _, _⟩) rfl _ _ 22 22 rfl 4 Try.underlying22 size_bool9 (some ⟨w.heap.size, 0, none⟩) (some ⟨b1, o1, none⟩) n n 1 cap rfl rfl w.heap.size 0 (falsesV n) 4 (by have := HO3.out.1; rw [falsesV_flat] at this; exact this) (falsesV 1) (by rw [falsesV_len]; simp only [Nat.min_def]; split <;> omega) (fun _ => ⟨rfl, _, rfl, fun j v hv => by
        have hj : j = 0 := by have := (List.getElem?_eq_some_iff.1 hv).1; rw [falsesV_len] at this; omega
        subst hj
        rw [show (falsesV 1)[0]? = some (.bool false) from rfl, Option.some.injEq] at hv
        subst hv
        have e1 : (⟨b1, o1, none⟩ : Addr).add 0 = ⟨b1, o1 + 0, none⟩ := addr_add b1 o1 0
        rw [e1]
        exact (HB3.out.cell (p := ⟨b1, o1 + 0, none⟩) hbs).trans HC0.out⟩) (by rw [falsesV_len, falsesV_len]; omega) falsesV_one w.heap.size w HB3.out (Nat.le_refl _) ?_; intro w4 HG4 hB4; rw [falsesV_splice (by omega)] at HG4; have HB4 := Lib.hid hB4; clear hB4))
  rw [falsesV_len]
  clear HO3 HB3 HI HC0
  generalize hGG : w.heap.size = G at *
  have HGG := Lib.hid hGG
  clear hGG
  go_loopg [8] (n - 1) (fun g s wr => ∃ m : Nat, m + g = n ∧ 1 ≤ m ∧ s = .int .i64 m ∧ Hid (wr.heap[G]? = some (.cells (falsesV n).toArray 4 (0, 0))) ∧ Hid (Below G w wr))
  case atStart => exact ⟨1, by omega, by omega, rfl, HG4, HB4⟩
  case round =>
    clear HG4 HB4
    obtain ⟨m, hm0, hm1, rfl, HG, HB⟩ := hrel
    have HM := Lib.hid hm0
    have hm2 : m ≤ n := by omega
    clear hm0
    by_cases hlt : m < n
    · have rF := run_from 22 4 1 Try.underlying22 elem_bool5 size_bool5 (some ⟨G, 0, none⟩) n n m hm2
      rw [show fromA (some ⟨G, 0, none⟩) n m 1 = some ⟨G, m, none⟩ from by unfold fromA; rw [if_neg (by omega)]; simp [addr_add]] at rF
      have rU := run_upto 22 4 1 Try.underlying22 elem_bool5 size_bool5 (some ⟨G, 0, none⟩) n n m hm2
      obtain ⟨c, hc⟩ : ∃ c, Nat.min m (n - m) = c := ⟨_, rfl⟩
      have hc1 : 1 ≤ c := by rw [← hc]; show 1 ≤ min m (n - m); omega
      have hc2 : m + c ≤ n := by rw [← hc]; show m + min m (n - m) ≤ n; omega
      have HCC := Lib.hid hc
      clear hc
      have HGd : Hid (wr.drew.heap[G]? = some (.cells (falsesV n).toArray 4 (0, 0))) := HG
      have hrun := run_copy_row Try.prog wr.drew 22 22 3 4 G m (n - m) (n - m) ⟨G, 0, none⟩ m n (falsesV n).toArray 4 (falsesV c) Try.underlying22 size_bool9 HGd.out (by rw [falsesV_len, HCC.out]) (fun j v hv => by
        have hj : j < c := by have := (List.getElem?_eq_some_iff.1 hv).1; rw [falsesV_len] at this; omega
        have hv2 : v = .bool false := List.eq_of_mem_replicate (List.mem_of_getElem? hv)
        subst hv2
        rw [addr_add]
        refine cell_at HGd.out ?_
        rw [Nat.zero_add]
        show (falsesV n).toArray[j]? = _
        rw [List.getElem?_toArray]
        unfold falsesV
        rw [List.getElem?_replicate, if_pos (by omega)]) (by rw [falsesV_len, List.size_toArray, falsesV_len]; omega) falsesV_one
      rw [show (falsesV n).toArray.toList.take m ++ falsesV c ++ (falsesV n).toArray.toList.drop (m + (falsesV c).length) = falsesV n from by
        have := falsesV_splice (n := n) (off := m) (m := c) hc2
        unfold splice at this
        rw [← List.append_assoc] at this
        exact this, setRow_self wr.drew G _ 4 (0, 0) HGd.out, falsesV_len] at hrun
      have HB2 : Hid (Below G w wr.drew) := Lib.hid HB.out.drew
      go_wp2_with fail
      go_region
      generalize wr.drew = W5 at *
      clear hrun rF rU
      go_wp2_with fail
      all_goals
        go_roundg (n - (m + c))
        case measure => have := HM.out; omega
        case rel => exact ⟨m + c, by omega, by omega, by go_num, HGd, HB2⟩
    · obtain rfl : m = n := by omega
      have hO : Own wr w.heap.size 4 1 (.slice (some ⟨G, 0, none⟩) m m) ((List.replicate m false).map bC) := own_of_heap (rows_of bC_len _) (by simp) (by rw [falsesV_flat]; exact HG.out) (by rw [HGG.out]; exact Nat.le_refl _) (by unfold maxLen; omega)
      have HO := Lib.hid hO
      clear HG hO
      go_wp2
      go_ret
      rw [← HGG.out]
      exact ⟨rfl, by have := HO.out; rw [← HGG.out] at this; exact this, by have := HB.out; rw [← HGG.out] at this; exact this⟩
end Go.Proofs.Ytffgoekdjcempab
