/- The contract of slices.Repeat on a slice of one 0. -/
import Derived.Test.YtffgoekdjcempabShelf
import Derived.Test.YtffgoekdjcempabGr6
import Derived.Test.YtffgoekdjcempabGr13
import Derived.Test.YtffgoekdjcempabSubSlice
import Derived.Laws.CopyOwn
import Derived.Deep.RegionLaw
import Derived.RegionTactic
import Derived.BigRegion
import Derived.Deep.LoopGhost
import Derived.WalkKit
namespace Go.Proofs.Ytffgoekdjcempab
open Go.ChangeShapes Go.WideShapes Go.ChangeAt Go.RowKit

def zerosV (n : Nat) : List Value := List.replicate n (.int .i64 0)
theorem zerosV_flat (n : Nat) : ((List.replicate n (0 : Int)).map iC).flatten = zerosV n := by rw [flat_ints, List.map_replicate]; rfl
theorem zerosV_len (n : Nat) : (zerosV n).length = n := by simp [zerosV]
theorem zerosV_splice {n off m : Nat} (h : off + m ≤ n) : splice (zerosV n) off (zerosV m) = zerosV n := by
  unfold splice zerosV
  rw [List.take_replicate, List.length_replicate, List.drop_replicate, List.replicate_append_replicate, List.replicate_append_replicate]
  congr 1
  omega
theorem zerosV_one {m : Nat} : ∀ v ∈ zerosV m, v.oneCell' = true := by
  intro v hv
  rw [List.eq_of_mem_replicate hv]; rfl
theorem own_heap {w : World} {base : Nat} {e : TypeId} {G n : Nat} {R : List (List Value)} (h : Own w base e 1 (.slice (some ⟨G, 0, none⟩) n n) R) : w.heap[G]? = some (.cells R.flatten.toArray e (0, 0)) ∧ base ≤ G := by
  obtain ⟨⟨hl, hv⟩, hR⟩ := h
  rcases hv with ⟨h0, _⟩ | ⟨g', cap', cur, h0, hg, hcur, hle, hm, hsz, htk⟩
  · cases h0
  simp only [Value.slice.injEq, Option.some.injEq, Addr.mk.injEq, and_true] at h0
  obtain ⟨rfl, hn, rfl⟩ := h0
  have e1 : cur.toList = R.flatten := by
    rw [← htk, List.take_of_length_le (by rw [Array.length_toList, hsz, hn]; exact Nat.le_refl _)]
  exact ⟨by rw [← e1]; simpa using hcur, hg⟩
theorem own_of_heap {w : World} {base : Nat} {e : TypeId} {G n : Nat} {R : List (List Value)} (hR : ∀ r ∈ R, r.length = 1) (hl : R.length = n) (hh : w.heap[G]? = some (.cells R.flatten.toArray e (0, 0))) (hb : base ≤ G) (hn : n ≤ maxLen) : Own w base e 1 (.slice (some ⟨G, 0, none⟩) n n) R := by
  have hf := flatten_len hR
  refine ⟨⟨by rw [hf], Or.inr ⟨G, n, _, by rw [hl], hb, hh, by rw [hl]; exact Nat.le_refl _, hn, by rw [List.size_toArray, hf, hl], ?_⟩⟩, hR⟩
  simp only
  rw [List.take_of_length_le (by rw [hf]; exact Nat.le_refl _)]
theorem size_int9 : (Try.prog.info? 3).map (·.size) = some 1 := by kernel_rfl
theorem size_int5 (w : World) : (sizeOf 3).run Try.prog w = .ok 1 w := by kernel_rfl
theorem elem_int5 : Try.prog.elem 53 = 3 := by kernel_rfl

theorem cell_at {w : World} {b i : Nat} {cs : Array Value} {t : TypeId} {u : Value} (h : w.heap[b]? = some (.cells cs t (0, 0))) (hu : cs[i]? = some u) : w.cell? ⟨b, i, none⟩ = some u := by
  simp [World.cell?, h, hu]
set_option maxRecDepth 100000 in
set_option maxHeartbeats 2000000 in
theorem repeat_zero (q : Option Addr) (cap n : Nat) (w : World) (h : Tab w q 1 cap 1 ([(0 : Int)].map iC)) (h1 : 1 ≤ n) (h2 : n ≤ 40) :
    Calls Try.prog 34 #[.slice q 1 cap, .int .i64 n] w (fun e w' => e = .returned (.slice (some ⟨w.heap.size, 0, none⟩) n n) ∧ Own w' w.heap.size 3 1 (.slice (some ⟨w.heap.size, 0, none⟩) n n) ((List.replicate n (0 : Int)).map iC) ∧ Below w.heap.size w w') := by
  have C := bits_Mul 1 n (by decide) (by omega) w
  rw [Nat.one_mul, Nat.div_eq_of_lt (by omega), Nat.mod_eq_of_lt (by omega)] at C
  obtain ⟨i0, hi, hz0, hz1, hz2⟩ := info_parts info_int
  have HI := Lib.hid (And.intro hi (And.intro hz0 (And.intro hz1 hz2)))
  obtain ⟨b1, o1, ha, hbs, c0⟩ := h.one (Below.refl _ _) (show ([(0 : Int)].map iC)[0]? = some [Value.int .i64 0] from rfl)
  have C := Lib.hid C
  subst ha
  clear hi hz0 hz1 hz2 h
  have HC0 := Lib.hid c0
  have hcm : ((n : Int) ≤ 9223372036854775807) := by omega
  clear c0
  go_enter Try.func34, Try.ntmps34
  go_wp2_with fail
  refine C.out.mono ?_
  rintro e w1 ⟨rfl, hw1⟩
  rw [hw1]
  clear hw1 C
  go_wp2_with (first
    | (at_make; refine wpList_make_full _ rfl _ _ 53 rfl w.heap.size 3 i0 (.int .i64 0) 1 Try.underlying53 HI.out.1 HI.out.2.1 HI.out.2.2.1 _ _ _ _ n rfl rfl rfl rfl (by rw [HI.out.2.2.2]; omega) (by unfold maxLen; omega) (Nat.le_refl _) ?_; intro w3 hO3 hg3; have HO3 := Lib.hid (own_heap (Own.full hO3 (made_ints n))); have HB3 := Lib.hid ((Below.refl _ _).grown hg3 (Nat.le_refl _) (fun j hj => by cases hj)); clear hO3 hg3)
    | (refine wpList_copy_splice (o := ⟨some 33, _, _, _, _, _⟩) rfl _ _ 53 53 rfl 3 Try.underlying53 size_int9 (some ⟨w.heap.size, 0, none⟩) (some ⟨b1, o1, none⟩) n n 1 cap rfl rfl w.heap.size 0 (zerosV n) 3 (by have := HO3.out.1; rw [zerosV_flat] at this; exact this) (zerosV 1) (by rw [zerosV_len]; simp only [Nat.min_def]; split <;> omega) (fun _ => ⟨rfl, _, rfl, fun j v hv => by
        have hj : j = 0 := by have := (List.getElem?_eq_some_iff.1 hv).1; rw [zerosV_len] at this; omega
        subst hj
        rw [show (zerosV 1)[0]? = some (.int .i64 0) from rfl, Option.some.injEq] at hv
        subst hv
        have e1 : (⟨b1, o1, none⟩ : Addr).add 0 = ⟨b1, o1 + 0, none⟩ := addr_add b1 o1 0
        rw [e1]
        exact (HB3.out.cell (p := ⟨b1, o1 + 0, none⟩) hbs).trans HC0.out⟩) (by rw [zerosV_len, zerosV_len]; omega) zerosV_one w.heap.size w HB3.out (Nat.le_refl _) ?_; intro w4 HG4 hB4; rw [zerosV_splice (by omega)] at HG4; have HB4 := Lib.hid hB4; clear hB4))
  rw [zerosV_len]
  clear HO3 HB3 HI HC0
  generalize hGG : w.heap.size = G at *
  have HGG := Lib.hid hGG
  clear hGG
  go_loopg [8] (n - 1) (fun g s wr => ∃ m : Nat, m + g = n ∧ 1 ≤ m ∧ s = .int .i64 m ∧ Hid (wr.heap[G]? = some (.cells (zerosV n).toArray 3 (0, 0))) ∧ Hid (Below G w wr))
  case atStart => exact ⟨1, by omega, by omega, rfl, HG4, HB4⟩
  case round =>
    clear HG4 HB4
    obtain ⟨m, hm0, hm1, rfl, HG, HB⟩ := hrel
    have HM := Lib.hid hm0
    have hm2 : m ≤ n := by omega
    clear hm0
    by_cases hlt : m < n
    · have rF := run_from 53 3 1 Try.underlying53 elem_int5 size_int5 (some ⟨G, 0, none⟩) n n m hm2
      rw [show fromA (some ⟨G, 0, none⟩) n m 1 = some ⟨G, m, none⟩ from by unfold fromA; rw [if_neg (by omega)]; simp [addr_add]] at rF
      have rU := run_upto 53 3 1 Try.underlying53 elem_int5 size_int5 (some ⟨G, 0, none⟩) n n m hm2
      obtain ⟨c, hc⟩ : ∃ c, Nat.min m (n - m) = c := ⟨_, rfl⟩
      have hc1 : 1 ≤ c := by rw [← hc]; show 1 ≤ min m (n - m); omega
      have hc2 : m + c ≤ n := by rw [← hc]; show m + min m (n - m) ≤ n; omega
      have HCC := Lib.hid hc
      clear hc
      have HGd : Hid (wr.drew.heap[G]? = some (.cells (zerosV n).toArray 3 (0, 0))) := HG
      have hrun := run_copy_row Try.prog wr.drew 53 53 3 3 G m (n - m) (n - m) ⟨G, 0, none⟩ m n (zerosV n).toArray 3 (zerosV c) Try.underlying53 size_int9 HGd.out (by rw [zerosV_len, HCC.out]) (fun j v hv => by
        have hj : j < c := by have := (List.getElem?_eq_some_iff.1 hv).1; rw [zerosV_len] at this; omega
        have hv2 : v = .int .i64 0 := List.eq_of_mem_replicate (List.mem_of_getElem? hv)
        subst hv2
        rw [addr_add]
        refine cell_at HGd.out ?_
        rw [Nat.zero_add]
        show (zerosV n).toArray[j]? = _
        rw [List.getElem?_toArray]
        unfold zerosV
        rw [List.getElem?_replicate, if_pos (by omega)]) (by rw [zerosV_len, List.size_toArray, zerosV_len]; omega) zerosV_one
      rw [show (zerosV n).toArray.toList.take m ++ zerosV c ++ (zerosV n).toArray.toList.drop (m + (zerosV c).length) = zerosV n from by
        have := zerosV_splice (n := n) (off := m) (m := c) hc2
        unfold splice at this
        rw [← List.append_assoc] at this
        exact this, setRow_self wr.drew G _ 3 (0, 0) HGd.out, zerosV_len] at hrun
      have HB2 : Hid (Below G w wr.drew) := Lib.hid HB.out.drew
      go_wp2_with fail
      go_region
      generalize wr.drew = W5 at *
      clear hrun rF rU
      go_wp2_with fail
      all_goals
        go_roundg (n - (m + c))
        case measure => have := HM.out; omega
        case rel => exact ⟨m + c, by omega, by omega, by go_num, HGd, HB2⟩
    · obtain rfl : m = n := by omega
      have hO : Own wr w.heap.size 3 1 (.slice (some ⟨G, 0, none⟩) m m) ((List.replicate m (0 : Int)).map iC) := own_of_heap (rows_of iC_len _) (by simp) (by rw [zerosV_flat]; exact HG.out) (by rw [HGG.out]; exact Nat.le_refl _) (by unfold maxLen; omega)
      have HO := Lib.hid hO
      clear HG hO
      go_wp2
      go_ret
      rw [← HGG.out]
      exact ⟨rfl, by have := HO.out; rw [← HGG.out] at this; exact this, by have := HB.out; rw [← HGG.out] at this; exact this⟩
end Go.Proofs.Ytffgoekdjcempab
