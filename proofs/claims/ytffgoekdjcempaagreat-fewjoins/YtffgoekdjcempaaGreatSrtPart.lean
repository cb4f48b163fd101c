/- sort.partialInsertionSort, order2, median over any value of less than fifty elements that sort.Sort can take. -/
import Derived.Test.YtffgoekdjcempaaGreatSrtBase
import Derived.Test.YtffgoekdjcempaaGreatGr3
namespace Go.Proofs.YtffgoekdjcempaaGreat
open Go.ChangeShapes Go.WideShapes Go.ChangeAt Go.RowKit

theorem scan_stop (lt : Int → Int → Bool) (d : Array Int) {b i : Nat} (h : ¬ i < b ∨ lt d[i]! d[i - 1]! = true) : Sort.scanSorted lt d b i = i := by
  rw [Sort.scanSorted.eq_def, if_neg]
  rintro hh
  rw [Bool.and_eq_true, decide_eq_true_iff] at hh
  rcases h with h | h
  · exact h hh.1
  · rw [h] at hh
    exact absurd hh.2 (by decide)
theorem scan_step (lt : Int → Int → Bool) (d : Array Int) {b i : Nat} (h1 : i < b) (h2 : lt d[i]! d[i - 1]! = false) : Sort.scanSorted lt d b i = Sort.scanSorted lt d b (i + 1) := by
  conv => lhs; rw [Sort.scanSorted.eq_def, if_pos (by rw [h2, decide_eq_true h1]; rfl)]
theorem part_few (lt : Int → Int → Bool) (d : Array Int) {a b : Nat} (h : b ≤ 49) : Sort.partialInsertionSort lt d a b = (d, decide (Sort.scanSorted lt d b (a + 1) = b)) := by
  unfold Sort.partialInsertionSort
  rw [Sort.partialIns]
  by_cases h1 : Sort.scanSorted lt d b (a + 1) = b
  · rw [decide_eq_true h1]
    exact if_pos h1
  · rw [decide_eq_false h1]
    exact (if_neg h1).trans (if_pos (by omega))

variable {S : World → Array Int → Prop} {base : Nat} {T : TypeId} {rv : Value} {lt : Int → Int → Bool} {n : Nat}

set_option maxRecDepth 100000 in
set_option maxHeartbeats 4000000 in
theorem partialInsertionSort_s (H : Srt S base T rv lt n) (a b : Nat) (d : Array Int) (w : World) (hS : S w d) (hab : a < b) (hb : b ≤ n) :
    Calls Tryz.prog 75 #[.iface T rv, .int .i64 a, .int .i64 b] w fun e w' => e = .returned (.bool (Sort.partialInsertionSort lt d a b).2) ∧ S w' (Sort.partialInsertionSort lt d a b).1 := by
  have hm := H.most
  rw [part_few lt d (by omega)]
  have HS0 := Lib.hid hS
  have HH := Lib.hid H
  clear H hS
  obtain ⟨D, hD⟩ : ∃ D, Sort.scanSorted lt d b (a + 1) = D := ⟨_, rfl⟩
  rw [hD]
  have HD0 := Lib.hid hD
  clear hD
  go_enter Tryz.func75, Tryz.ntmps75
  go_wp2
  go_loopg [7, 8] 1 (fun g x y wr => g = 1 ∧ x = .int .i64 (((a + 1 : Nat)) : Int) ∧ y = .int .i64 0 ∧ Hid (S wr d))
  case atStart => exact ⟨rfl, by go_num, rfl, HS0⟩
  case round =>
    clear HS0
    obtain ⟨rfl, rfl, rfl, HS⟩ := hrel
    go_wp2
    go_loopg [7] (b - (a + 1)) (fun g x wr => ∃ (i : Nat), x = .int .i64 i ∧ i + g = b ∧ a < i ∧ Hid (Sort.scanSorted lt d b i = D) ∧ Hid (S wr d))
    case atStart => exact ⟨a + 1, by go_num, by omega, by omega, HD0, HS⟩
    case round =>
      clear HD0 HS
      obtain ⟨i, rfl, hig, hai, HD, HS⟩ := hrel
      by_cases hib : i < b
      · obtain ⟨f, r, mL, eL, cL⟩ := HH.out.less i (i - 1) HS.out (by omega) (by omega)
        obtain ⟨t, ht⟩ : ∃ t, lt d[i]! d[i - 1]! = t := ⟨_, rfl⟩
        rw [ht, show ((i - 1 : Nat) : Int) = (i : Int) - 1 from by omega] at cL
        have CL := Lib.hid cL
        clear cL
        cases t
        · rw [scan_step lt d hib ht] at HD
          clear ht
          go_wp2_with (go_at_fn f; refine CL.out.mono ?_; rintro e w1 ⟨rfl, hb1⟩; have HS1 := Lib.hid (HH.out.on HS.out hb1); clear hb1)
          go_roundg (b - (i + 1))
          case measure => omega
          case rel => exact ⟨i + 1, by go_num, by omega, by omega, HD, HS1⟩
        · rw [scan_stop lt d (Or.inr ht)] at HD
          obtain rfl : i = D := HD.out
          have hne : ((i : Int) == (b : Int)) = false := by rw [beq_eq_false_iff_ne]; omega
          have HF := Lib.hid (show decide (i = b) = false from decide_eq_false (by omega))
          clear ht
          go_wp2_with (go_at_fn f; refine CL.out.mono ?_; rintro e w1 ⟨rfl, hb1⟩; have HS1 := Lib.hid (HH.out.on HS.out hb1); clear hb1)
          go_ret
          exact ⟨by rw [HF.out]; rfl, HS1.out⟩
      · rw [scan_stop lt d (Or.inl hib)] at HD
        obtain rfl : i = D := HD.out
        obtain rfl : i = b := by omega
        have hee : ((i : Int) == (i : Int)) = true := by simp
        go_wp2
        go_ret
        exact ⟨rfl, HS.out⟩

/-- a box of the call's own with a number -/
def SwBox (base sb : Nat) (s : Nat) (w : World) : Prop := base ≤ sb ∧ w.heap[sb]? = some (.cells #[.int .i64 (s : Int)] 3 (0, 0))

set_option maxRecDepth 100000 in
set_option maxHeartbeats 4000000 in
theorem order2_s (H : Srt S base T rv lt n) (a b sb s : Nat) (d : Array Int) (w : World) (hS : S w d) (ha : a < n) (hb : b < n) (hB : SwBox base sb s w) (hs : s ≤ 1000) :
    Calls Tryz.prog 99 #[.iface T rv, .int .i64 a, .int .i64 b, .pointer (some ⟨sb, 0, none⟩)] w fun e w' =>
      e = .returned (.tuple #[.int .i64 ((Sort.order2 lt d a b s).1 : Nat), .int .i64 ((Sort.order2 lt d a b s).2.1 : Nat)]) ∧ S w' d ∧ SwBox base sb (Sort.order2 lt d a b s).2.2 w' := by
  have hm := H.most
  obtain ⟨f, r, mL, eL, cL⟩ := H.less b a hS hb ha
  have HS := Lib.hid hS
  have HH := Lib.hid H
  have HBB := Lib.hid hB
  unfold Sort.order2
  obtain ⟨t, ht⟩ : ∃ t, lt d[b]! d[a]! = t := ⟨_, rfl⟩
  rw [ht] at cL ⊢
  have CL := Lib.hid cL
  clear H hS cL ht hB
  cases t
  · rw [if_neg (by decide)]
    go_enter Tryz.func99, Tryz.ntmps99
    go_wp2_with (go_at_fn f; refine CL.out.mono ?_; rintro e w1 ⟨rfl, hb1⟩; have HB1 := Lib.hid hb1; clear hb1)
    go_ret2
    refine ⟨rfl, HH.out.on HS.out HB1.out, HBB.out.1, ?_⟩
    have h := HBB.out.2
    exact (HB1.out.block sb (Array.getElem?_eq_some_iff.1 h).1).trans h
  · rw [if_pos rfl]
    go_enter Tryz.func99, Tryz.ntmps99
    go_wp2_with (go_at_fn f; refine CL.out.mono ?_; rintro e w1 ⟨rfl, hb1⟩; have h1 : w1.heap[sb]? = some (.cells #[.int .i64 (s : Int)] 3 (0, 0)) := (hb1.block sb (Array.getElem?_eq_some_iff.1 HBB.out.2).1).trans HBB.out.2; have HB1 := Lib.hid hb1; have c0 := cell_blk (i := 0) h1 rfl; have f0 := frozen_blk (i := 0) h1; have H1 := Lib.hid h1; clear hb1 h1)
    go_ret2
    exact ⟨rfl, HH.out.below (HH.out.on HS.out HB1.out) ((Below.refl base w1).setCell (p := ⟨sb, 0, none⟩) HBB.out.1 _), HBB.out.1, heap_setCell_same w1 sb 0 _ _ (.int .i64 ((s : Int) + 1)) H1.out⟩

theorem order2_lt {d : Array Int} {a b s n : Nat} (ha : a < n) (hb : b < n) : (Sort.order2 lt d a b s).1 < n ∧ (Sort.order2 lt d a b s).2.1 < n ∧ (Sort.order2 lt d a b s).2.2 ≤ s + 1 := by
  unfold Sort.order2
  split
  · exact ⟨hb, ha, Nat.le_refl _⟩
  · exact ⟨ha, hb, Nat.le_succ _⟩

set_option maxRecDepth 100000 in
set_option maxHeartbeats 4000000 in
theorem median_s (H : Srt S base T rv lt n) (a b c sb s : Nat) (d : Array Int) (w : World) (hS : S w d) (ha : a < n) (hb : b < n) (hc : c < n) (hB : SwBox base sb s w) (hs : s ≤ 900) :
    Calls Tryz.prog 87 #[.iface T rv, .int .i64 a, .int .i64 b, .int .i64 c, .pointer (some ⟨sb, 0, none⟩)] w fun e w' =>
      e = .returned (.int .i64 ((Sort.median lt d a b c s).1 : Nat)) ∧ S w' d ∧ SwBox base sb (Sort.median lt d a b c s).2 w' := by
  have C1 := Lib.hid (order2_s H a b sb s d w hS ha hb hB (by omega))
  obtain ⟨p1, q1, s1⟩ := order2_lt (lt := lt) (d := d) (s := s) ha hb
  unfold Sort.median
  simp only
  generalize Sort.order2 lt d a b s = r1 at *
  have C2 := Lib.hid (fun W (hS : S W d) hB => order2_s H r1.2.1 c sb r1.2.2 d W hS q1 hc hB (by omega))
  obtain ⟨p2, q2, s2⟩ := order2_lt (lt := lt) (d := d) (s := r1.2.2) q1 hc
  generalize Sort.order2 lt d r1.2.1 c r1.2.2 = r2 at *
  have C3 := Lib.hid (fun W (hS : S W d) hB => order2_s H r1.1 r2.1 sb r2.2.2 d W hS p1 p2 hB (by omega))
  generalize Sort.order2 lt d r1.1 r2.1 r2.2.2 = r3 at *
  clear H hS hB ha hb hc hs p1 q1 s1 p2 q2 s2
  go_enter Tryz.func87, Tryz.ntmps87
  go_wp2_with fail
  refine C1.out.mono ?_
  rintro e w1 ⟨rfl, hs1, hB1⟩
  have C2' := Lib.hid (C2.out w1 hs1 hB1)
  clear hs1 hB1 C1 C2
  go_wp2_with fail
  refine C2'.out.mono ?_
  rintro e w2 ⟨rfl, hs2, hB2⟩
  have C3' := Lib.hid (C3.out w2 hs2 hB2)
  clear hs2 hB2 C2' C3
  go_wp2_with fail
  refine C3'.out.mono ?_
  rintro e w3 ⟨rfl, hs3, hB3⟩
  have HF := Lib.hid (And.intro hs3 hB3)
  clear hs3 hB3 C3'
  go_wp2
  go_ret
  exact ⟨rfl, HF.out⟩
end Go.Proofs.YtffgoekdjcempaaGreat
