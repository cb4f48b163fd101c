/- The contract of slices.Repeat on a slice of one number. -/
import Derived.Test.YtfocmnjkoominaaShelf
import Derived.Test.YtfocmnjkoominaaInfoInts
import Derived.Test.YtfocmnjkoominaaOwnTwo
import Derived.Test.YtfocmnjkoominaaSubSlice
import Derived.Laws.CopyOwn
import Derived.Deep.RegionLaw
import Derived.RegionTactic
import Derived.BigRegion
import Derived.Deep.LoopGhost
import Derived.WalkKit
namespace Go.Proofs.Ytfocmnjkoominaa
open Go.ChangeShapes Go.WideShapes Go.ChangeAt Go.RowKit
namespace Rep

def xs (x : Int) (n : Nat) : List Value := List.replicate n (.int .i64 x)
def prt (x : Int) (n m : Nat) : List Value := xs x m ++ xs 0 (n - m)
theorem xs_flat (x : Int) (n : Nat) : ((List.replicate n x).map iC).flatten = xs x n := by rw [flat_ints, List.map_replicate]; rfl
theorem xs_len (x : Int) (n : Nat) : (xs x n).length = n := by simp [xs]
theorem prt_len (x : Int) {n m : Nat} (h : m ≤ n) : (prt x n m).length = n := by unfold prt; rw [List.length_append, xs_len, xs_len]; omega
theorem prt_zero (x : Int) (n : Nat) : prt x n 0 = xs 0 n := rfl
theorem prt_full (x : Int) (n : Nat) : prt x n n = xs x n := by unfold prt; rw [Nat.sub_self]; exact List.append_nil _
theorem prt_splice (x : Int) {n m c : Nat} (h : m + c ≤ n) : splice (prt x n m) m (xs x c) = prt x n (m + c) := by
  unfold splice prt
  have h1 : (xs x m ++ xs 0 (n - m)).take m = xs x m := by rw [List.take_append_of_le_length (by rw [xs_len]; exact Nat.le_refl _), List.take_of_length_le (by rw [xs_len]; exact Nat.le_refl _)]
  have h2 : (xs x m ++ xs 0 (n - m)).drop (m + (xs x c).length) = xs 0 (n - (m + c)) := by
    rw [xs_len, List.drop_append, List.drop_of_length_le (by rw [xs_len]; omega), xs_len, List.nil_append]
    unfold xs
    rw [List.drop_replicate]
    congr 1
    omega
  rw [h1, h2, ← List.append_assoc]
  congr 1
  unfold xs
  rw [List.replicate_append_replicate]
theorem xs_one {x : Int} {m : Nat} : ∀ v ∈ xs x m, v.oneCell' = true := by
  intro v hv
  rw [List.eq_of_mem_replicate hv]; rfl
theorem own_heap {w : World} {base : Nat} {e : TypeId} {G n : Nat} {R : List (List Value)} (h : Own w base e 1 (.slice (some ⟨G, 0, none⟩) n n) R) : w.heap[G]? = some (.cells R.flatten.toArray e (0, 0)) ∧ base ≤ G := by
  obtain ⟨⟨hl, hv⟩, hR⟩ := h
  rcases hv with ⟨h0, _⟩ | ⟨g', cap', cur, h0, hg, hcur, hle, hm, hsz, htk⟩
  · cases h0
  simp only [Value.slice.injEq, Option.some.injEq, Addr.mk.injEq, and_true] at h0
  obtain ⟨rfl, hn, rfl⟩ := h0
  have e1 : cur.toList = R.flatten := by
    rw [← htk, List.take_of_length_le (by rw [Array.length_toList, hsz, hn]; exact Nat.le_refl _)]
  exact ⟨by rw [← e1]; simpa using hcur, hg⟩
theorem own_of_heap {w : World} {base : Nat} {e : TypeId} {G n : Nat} {R : List (List Value)} (hR : ∀ r ∈ R, r.length = 1) (hl : R.length = n) (hh : w.heap[G]? = some (.cells R.flatten.toArray e (0, 0))) (hb : base ≤ G) (hn : n ≤ maxLen) : Own w base e 1 (.slice (some ⟨G, 0, none⟩) n n) R := by
  have hf := flatten_len hR
  refine ⟨⟨by rw [hf], Or.inr ⟨G, n, _, by rw [hl], hb, hh, by rw [hl]; exact Nat.le_refl _, hn, by rw [List.size_toArray, hf, hl], ?_⟩⟩, hR⟩
  simp only
  rw [List.take_of_length_le (by rw [hf]; exact Nat.le_refl _)]
theorem size_int9 : (Try.prog.info? 3).map (·.size) = some 1 := by kernel_rfl
theorem size_int5 (w : World) : (sizeOf 3).run Try.prog w = .ok 1 w := by kernel_rfl
theorem elem_int5 : Try.prog.elem 22 = 3 := by kernel_rfl
theorem cell_at {w : World} {b i : Nat} {cs : Array Value} {t : TypeId} {u : Value} (h : w.heap[b]? = some (.cells cs t (0, 0))) (hu : cs[i]? = some u) : w.cell? ⟨b, i, none⟩ = some u := by
  simp [World.cell?, h, hu]
end Rep
open Rep

set_option maxRecDepth 100000 in
set_option maxHeartbeats 2000000 in
theorem repeat_one (x : Int) (q : Option Addr) (cap n : Nat) (w : World) (h : Tab w q 1 cap 1 ([x].map iC)) (h2 : n ≤ 40) :
    Calls Try.prog 34 #[.slice q 1 cap, .int .i64 n] w (fun e w' => e = .returned (.slice (some ⟨w.heap.size, 0, none⟩) n n) ∧ Own w' w.heap.size 3 1 (.slice (some ⟨w.heap.size, 0, none⟩) n n) ((List.replicate n x).map iC) ∧ Below w.heap.size w w') := by
  have C := bits_Mul 1 n (by decide) (by omega) w
  rw [Nat.one_mul, Nat.div_eq_of_lt (by omega), Nat.mod_eq_of_lt (by omega)] at C
  obtain ⟨i0, hi, hz0, hz1, hz2⟩ := info_parts info_int
  have HI := Lib.hid (And.intro hi (And.intro hz0 (And.intro hz1 hz2)))
  obtain ⟨b1, o1, ha, hbs, c0⟩ := h.one (Below.refl _ _) (show ([x].map iC)[0]? = some [Value.int .i64 x] from rfl)
  have C := Lib.hid C
  subst ha
  clear hi hz0 hz1 hz2 h
  have HC0 := Lib.hid c0
  have hcm : ((n : Int) ≤ 9223372036854775807) := by omega
  obtain ⟨m0, hm0⟩ : ∃ m0, Nat.min 1 n = m0 := ⟨_, rfl⟩
  have hm1 : m0 ≤ 1 := by rw [← hm0]; exact Nat.min_le_left _ _
  have hm2 : m0 ≤ n := by rw [← hm0]; exact Nat.min_le_right _ _
  have hm3 : m0 = n ∨ 1 ≤ m0 := by have : min 1 n = m0 := hm0; omega
  have HM0 := Lib.hid hm0
  have HM3 := Lib.hid hm3
  clear c0 hm0 hm3
  go_enter Try.func34, Try.ntmps34
  go_wp2_with fail
  refine C.out.mono ?_
  rintro e w1 ⟨rfl, hw1⟩
  rw [hw1]
  clear hw1 C
  go_wp2_with (first
    | (at_make; refine wpList_make_full _ rfl _ _ 22 rfl w.heap.size 3 i0 (.int .i64 0) 1 Try.underlying22 HI.out.1 HI.out.2.1 HI.out.2.2.1 _ _ _ _ n rfl rfl rfl rfl (by rw [HI.out.2.2.2]; omega) (by unfold maxLen; omega) (Nat.le_refl _) ?_; intro w3 hO3 hg3; have HO3 := Lib.hid (own_heap (Own.full hO3 (made_ints n))); have HB3 := Lib.hid ((Below.refl _ _).grown hg3 (Nat.le_refl _) (fun j hj => by cases hj)); clear hO3 hg3)
    | (refine wpList_copy_splice (o := ⟨some 33, _, _, _, _, _⟩) rfl _ _ 22 22 rfl 3 Try.underlying22 size_int9 (some ⟨w.heap.size, 0, none⟩) (some ⟨b1, o1, none⟩) n n 1 cap rfl rfl w.heap.size 0 (prt x n 0) 3 (by have := HO3.out.1; rw [xs_flat] at this; rw [prt_zero]; exact this) (xs x m0) (by rw [xs_len]; exact HM0.out.symm) (fun _ => ⟨rfl, _, rfl, fun j v hv => by
        have hj : j = 0 := by have := (List.getElem?_eq_some_iff.1 hv).1; rw [xs_len] at this; omega
        subst hj
        have hv2 : v = .int .i64 x := List.eq_of_mem_replicate (List.mem_of_getElem? hv)
        subst hv2
        have e1 : (⟨b1, o1, none⟩ : Addr).add 0 = ⟨b1, o1 + 0, none⟩ := addr_add b1 o1 0
        rw [e1]
        exact (HB3.out.cell (p := ⟨b1, o1 + 0, none⟩) hbs).trans HC0.out⟩) (by rw [xs_len, prt_len x (Nat.zero_le _)]; omega) xs_one w.heap.size w HB3.out (Nat.le_refl _) ?_; intro w4 HG4 hB4; rw [prt_splice x (show 0 + m0 ≤ n by omega), Nat.zero_add] at HG4; have HB4 := Lib.hid hB4; clear hB4))
  rw [xs_len]
  clear HO3 HB3 HI HC0
  generalize hGG : w.heap.size = G at *
  have HGG := Lib.hid hGG
  clear hGG
  go_loopg [8] (n - m0) (fun g s wr => ∃ m : Nat, m + g = n ∧ Hid (m = n ∨ 1 ≤ m) ∧ s = .int .i64 m ∧ Hid (wr.heap[G]? = some (.cells (prt x n m).toArray 3 (0, 0))) ∧ Hid (Below G w wr))
  case atStart => exact ⟨m0, by omega, HM3, rfl, HG4, HB4⟩
  case round =>
    clear HG4 HB4 HM3 HM0 hm1 hm2
    obtain ⟨m, hm0, hmm, rfl, HG, HB⟩ := hrel
    have HM := Lib.hid hm0
    have hm2 : m ≤ n := by omega
    clear hm0
    by_cases hlt : m < n
    · have hm1 : 1 ≤ m := by have := hmm.out; omega
      have rF := run_from 22 3 1 Try.underlying22 elem_int5 size_int5 (some ⟨G, 0, none⟩) n n m hm2
      rw [show fromA (some ⟨G, 0, none⟩) n m 1 = some ⟨G, m, none⟩ from by unfold fromA; rw [if_neg (by omega)]; simp [addr_add]] at rF
      have rU := run_upto 22 3 1 Try.underlying22 elem_int5 size_int5 (some ⟨G, 0, none⟩) n n m hm2
      obtain ⟨c, hc⟩ : ∃ c, Nat.min m (n - m) = c := ⟨_, rfl⟩
      have hc1 : 1 ≤ c := by rw [← hc]; show 1 ≤ min m (n - m); omega
      have hc2 : m + c ≤ n := by rw [← hc]; show m + min m (n - m) ≤ n; omega
      have hc3 : c ≤ m := by rw [← hc]; show min m (n - m) ≤ m; omega
      have HCC := Lib.hid hc
      clear hc
      have HGd : Hid (wr.drew.heap[G]? = some (.cells (prt x n m).toArray 3 (0, 0))) := HG
      have hrun := run_copy_row Try.prog wr.drew 22 22 3 3 G m (n - m) (n - m) ⟨G, 0, none⟩ m n (prt x n m).toArray 3 (xs x c) Try.underlying22 size_int9 HGd.out (by rw [xs_len, HCC.out]) (fun j v hv => by
        have hj : j < c := by have := (List.getElem?_eq_some_iff.1 hv).1; rw [xs_len] at this; omega
        have hv2 : v = .int .i64 x := List.eq_of_mem_replicate (List.mem_of_getElem? hv)
        subst hv2
        rw [addr_add]
        refine cell_at HGd.out ?_
        rw [Nat.zero_add]
        show (prt x n m).toArray[j]? = _
        rw [List.getElem?_toArray]
        unfold prt
        rw [List.getElem?_append_left (by rw [xs_len]; omega)]
        unfold xs
        rw [List.getElem?_replicate, if_pos (by omega)]) (by rw [xs_len, List.size_toArray, prt_len x hm2]; omega) xs_one
      rw [show (prt x n m).toArray.toList.take m ++ xs x c ++ (prt x n m).toArray.toList.drop (m + (xs x c).length) = prt x n (m + c) from by
        have := prt_splice x hc2
        unfold splice at this
        rw [← List.append_assoc] at this
        exact this, xs_len] at hrun
      have HG2 := Lib.hid (setRow_heap wr.drew G _ (prt x n (m + c)).toArray 3 (0, 0) HGd.out)
      have HB2 : Hid (Below G w (wr.drew.setRow G (prt x n (m + c)).toArray)) := Lib.hid (below_setRow HB.out.drew (Nat.le_refl _) _)
      obtain ⟨PP, hPP⟩ : ∃ PP, prt x n (m + c) = PP := ⟨_, rfl⟩
      rw [hPP] at hrun HG2 HB2
      have HPP := Lib.hid hPP
      clear hPP
      go_wp2_with fail
      go_region
      generalize wr.drew.setRow G PP.toArray = W5 at *
      clear hrun rF rU
      go_wp2_with fail
      all_goals
        go_roundg (n - (m + c))
        case measure => have := HM.out; omega
        case rel => exact ⟨m + c, by omega, Lib.hid (Or.inr (by omega)), by go_num, by rw [HPP.out]; exact HG2, HB2⟩
    · obtain rfl : m = n := by omega
      have hO : Own wr w.heap.size 3 1 (.slice (some ⟨G, 0, none⟩) m m) ((List.replicate m x).map iC) := own_of_heap (rows_of iC_len _) (by simp) (by rw [xs_flat, ← prt_full]; exact HG.out) (by rw [HGG.out]; exact Nat.le_refl _) (by unfold maxLen; omega)
      have HO := Lib.hid hO
      clear HG hO
      go_wp2
      go_ret
      rw [← HGG.out]
      exact ⟨rfl, by have := HO.out; rw [← HGG.out] at this; first | exact this | (rw [List.map_replicate] at this; exact this), by have := HB.out; rw [← HGG.out] at this; exact this⟩
end Go.Proofs.Ytfocmnjkoominaa
