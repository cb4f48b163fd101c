/- The contract of the document's own table (culref.Alias). -/
import Derived.Test.YteddoccgbebbeabRefAliasBox
import Derived.Test.YteddoccgbebbeabRefAliasMath
import Derived.Test.YteddoccgbebbeabRefWeight
import Derived.Test.YteddoccgbebbeabAliasMake
import Derived.Deep.DeepCutAuto
import Derived.Deep.RegionLaw
import Derived.RegionTactic
import Derived.BigRegion
namespace Go.Proofs.Yteddoccgbebbeab
open Go.ChangeShapes Go.WideShapes Go.ChangeAt Go.RowKit
open Walker

theorem info_bit : (Try.prog.info? 77).map (fun i => (i.zero, i.size, i.bytes)) = some (some (.agg #[.int .i64 0, .int .i64 0]), 2, 16) := by kernel_rfl
theorem own_bit (W : World) (x y : Int) : Own (W.alloc (.cells #[.int .i64 x, .int .i64 y] 77)) W.heap.size 77 2 (.slice (some ⟨W.heap.size, 0, none⟩) 1 1) ([(x, y)].map iiC) :=
  ⟨⟨rfl, Or.inr ⟨W.heap.size, 1, #[.int .i64 x, .int .i64 y], rfl, Nat.le_refl _, (MapKept.heap_alloc W _).1, Nat.le_refl _, by decide, rfl, rfl⟩⟩, by intro r hr; simp [iiC] at hr; subst hr; rfl⟩
theorem lit_cell (W : World) (z : Int) (t : TypeId) : (W.alloc (.cells #[.int .i64 z] t)).cell? ⟨W.heap.size, 0, none⟩ = some (.int .i64 z) := by
  exact cell_blk (MapKept.heap_alloc W (.cells #[.int .i64 z] t)).1 rfl
theorem lit_cell_old (W : World) (z : Int) (t : TypeId) (o : Obj) : ((W.alloc (.cells #[.int .i64 z] t)).alloc o).cell? ⟨W.heap.size, 0, none⟩ = some (.int .i64 z) :=
  (((Below.refl _ _).alloc (Nat.le_refl _) o).cell (p := ⟨W.heap.size, 0, none⟩) (by simp)).trans (lit_cell W z t)
theorem lit_cell_two (W : World) (z : Int) (t : TypeId) (o : Obj) : ((W.alloc o).alloc (.cells #[.int .i64 z] t)).cell? ⟨W.heap.size + 1, 0, none⟩ = some (.int .i64 z) := by
  have h := lit_cell (W.alloc o) z t
  rw [show (W.alloc o).heap.size = W.heap.size + 1 from by simp] at h
  exact h
theorem cell_grown {w w' : World} {row : Option Nat} {B : Nat} {u : Value} (hg : w.grownBy w' row) (h : w.cell? ⟨B, 0, none⟩ = some u) (hlt : B < w.heap.size) (hne : some B ≠ row) : w'.cell? ⟨B, 0, none⟩ = some u := by
  unfold World.cell? at h ⊢
  rw [hg.block B hlt hne]; exact h

theorem size_bit (w : World) : (sizeOf 77).run Try.prog w = .ok 2 w := by kernel_rfl
theorem elem_bit : Try.prog.elem 75 = 77 := by kernel_rfl

set_option maxRecDepth 100000 in
set_option maxHeartbeats 4000000 in
theorem refAlias_ok (a : Option Addr) (len cap : Nat) (l : List Int) (w : World) (h : Tab w a len cap 1 (l.map iC)) (hE : weightsE l = 0) :
    Calls Try.prog 18 #[.slice a len cap] w fun e w' => ∃ vo vr, e = .returned (.agg #[.int .i64 l.sum, vo, vr]) ∧ Own w' w.heap.size 3 1 vo ((table l).own.map iC) ∧ Own w' w.heap.size 3 1 vr ((table l).rest.map iC) ∧ Below w.heap.size w w' := by
  obtain ⟨z1, z2, z3⟩ := weightsE_zero hE
  have hl := h.hlen
  rw [List.length_map] at hl
  have hn40 : len ≤ 40 := by omega
  have hpos : 0 < len := by
    rcases Nat.eq_zero_or_pos len with e | e
    · exact absurd (by rw [List.length_eq_zero_iff.1 (hl.trans e)]; rfl) z3
    · exact e
  have hb0 : Below w.heap.size w (w.alloc (.cells #[.int .i64 0, .slice none 0 0, .slice none 0 0] 27)) := (Below.refl _ _).alloc (Nat.le_refl _) _
  have CW := refWeights_any a len cap l _ (h.below hb0)
  rw [hE, if_pos rfl] at CW
  have CW := Lib.hid CW
  have bA := sum_bd z2
  rw [hl] at bA
  have bA1 := bA.1
  have bA2 : l.sum ≤ 40000000000000 := by omega
  have HINV := Lib.hid (start_inv z2 z1)
  have HT := Lib.hid h
  have HL := Lib.hid hl
  have HZ := Lib.hid z2
  obtain ⟨A, hA⟩ : ∃ A, l.sum = A := ⟨_, rfl⟩
  have HA := Lib.hid hA
  rw [hA] at CW bA1 bA2 ⊢
  have hH : (w.alloc (.cells #[.int .i64 0, .slice none 0 0, .slice none 0 0] 27)).heap[w.heap.size]? = some (.cells #[.int .i64 0, .slice none 0 0, .slice none 0 0] 27 (0, 0)) := (MapKept.heap_alloc w _).1
  have HAL0 : Hid (AL w ((w.alloc (.cells #[.int .i64 0, .slice none 0 0, .slice none 0 0] 27)).alloc (.cells #[.int .i64 A, .slice none 0 0, .slice none 0 0] 27)) w.heap.size (w.heap.size + 1) A (.slice none 0 0) (.slice none 0 0) (.slice none 0 0) (.slice none 0 0) (.slice none 0 0) (.slice none 0 0) [] [] (pairs (Walker.start l).left ((List.range 0).filter (pLow l len A))) (pairs (Walker.start l).left ((List.range 0).filter (fun i => !pLow l len A i)))) := by
    have nn : ∀ x : Value, Apart x (.slice none 0 0) := fun x => (apart_nil x).symm
    refine Lib.hid ⟨Own.nil _ _ _ _, Own.nil _ _ _ _, Vw.nil _ _, Vw.nil _ _, ?_, ?_, nn _, nn _, nn _, nn _, nn _, nn _, (fun g hg => by cases hg), (fun g hg => by cases hg), Nat.lt_succ_self _, Nat.le_refl _, hb0.alloc hb0.size _⟩
    · have := (MapKept.heap_alloc (w.alloc (.cells #[.int .i64 0, .slice none 0 0, .slice none 0 0] 27)) (.cells #[.int .i64 A, .slice none 0 0, .slice none 0 0] 27)).1
      simpa using this
    · rw [Below.heap_alloc _ _ _ (by simp)]; exact hH
  clear h hE z1 z2 z3 hl bA hA hb0 hH
  go_enter Try.func18, Try.ntmps18
  go_wp2_with fail
  refine CW.out.mono ?_
  rintro e W0 ⟨rfl, hW0⟩
  have hW0 := hW0.symm
  subst hW0
  go_wp2_with fail
  clear CW
  generalize hWX : (w.alloc (.cells #[.int .i64 0, .slice none 0 0, .slice none 0 0] 27)).alloc (.cells #[.int .i64 A, .slice none 0 0, .slice none 0 0] 27) = WX at *
  generalize hXX : w.heap.size + 1 = X at *
  clear hWX
  go_loopg [6, 7, 22] len (fun g vl vh i wr => ∃ (k : Nat) (vo vr : Value), k + g = len ∧ i = .int .i64 k ∧ Hid (AL w wr w.heap.size X A vo vr vo vr vl vh (List.replicate k A) (Digit.rowOf k) (pairs (Walker.start l).left ((List.range k).filter (pLow l len A))) (pairs (Walker.start l).left ((List.range k).filter (fun i => !pLow l len A i)))))
  case atStart => exact ⟨0, _, _, by omega, rfl, HAL0⟩
  case round =>
    clear HAL0
    obtain ⟨k, vo, vr, hk0, rfl, HH⟩ := hrel
    have HJ := Lib.hid hk0
    have hk : k ≤ len := by omega
    clear hk0
    by_cases hlt : k < len
    · obtain ⟨x, hx⟩ : ∃ x, l[k]? = some x := ⟨_, List.getElem?_eq_getElem (by rw [HL.out]; exact hlt)⟩
      obtain ⟨b1, o1, ha, hbs, c0⟩ := HT.out.one HH.out.bel (map_get hx)
      have hl1 : (List.replicate k A).length ≤ 40 := by simp; omega
      have hl2 : (Digit.rowOf k).length ≤ 40 := by rw [Digit.rowOf_len]; omega
      have hsX := HH.out.lX
      have HNE : Hid (∀ B, wr.heap.size ≤ B → some B ≠ vo.ownBlock) := Lib.hid (fun B hB e => by have := (HH.out.oo.own.lt _ e.symm).2; omega)
      obtain ⟨⟨e0, e1, e2⟩, r0, r1, r2⟩ := whole_cells HH.out.box
      obtain ⟨⟨ea0, ea1, ea2⟩, _, _, _⟩ := whole_cells (HH.out.alloc (.cells #[.int .i64 A] 3)).box
      obtain ⟨⟨eb0, eb1, eb2⟩, _, _, _⟩ := whole_cells (HH.out.alloc (.cells #[.int .i64 (k : Int)] 3)).box
      obtain ⟨⟨ec0, ec1, ec2⟩, _, _, _⟩ := whole_cells ((HH.out.alloc (.cells #[.int .i64 A] 3)).alloc (.cells #[.int .i64 (k : Int)] 3)).box
      obtain ⟨⟨ed0, ed1, ed2⟩, _, _, _⟩ := whole_cells ((HH.out.alloc (.cells #[.int .i64 (k : Int)] 3)).alloc (.cells #[.int .i64 A] 3)).box
      have p0 : 0 ≤ x * (len : Int) := Int.mul_nonneg (HZ.out x (List.mem_of_getElem? hx)).1 (by omega)
      have p1 : x * (len : Int) ≤ 40000000000000 := by
        have h1 : x * (len : Int) ≤ 1000000000000 * (len : Int) := Int.mul_le_mul_of_nonneg_right (HZ.out x (List.mem_of_getElem? hx)).2 (by omega)
        omega
      have HGL : Hid (g (Walker.start l).left k = x * (len : Int)) := Lib.hid (by rw [g_left (by rw [HL.out]; exact hlt), g_some hx, HL.out])
      have HPL : Hid (pLow l len A k = decide (x * (len : Int) < A)) := Lib.hid (by unfold pLow; rw [g_some hx])
      have HLN1 : Hid ((pairs (Walker.start l).left ((List.range k).filter (pLow l len A))).length ≤ 40 ∧ (pairs (Walker.start l).left ((List.range k).filter (fun i => !pLow l len A i))).length ≤ 40) := Lib.hid (by
        rw [pairs_len, pairs_len]
        have h1 := List.length_filter_le (pLow l len A) (List.range k)
        have h2 := List.length_filter_le (fun i => !pLow l len A i) (List.range k)
        rw [List.length_range] at h1 h2
        omega)
      have HSO : Hid (List.replicate (k + 1) A = List.replicate k A ++ [A]) := Lib.hid List.replicate_succ'
      have HSR : Hid (Digit.rowOf (k + 1) = Digit.rowOf k ++ [(k : Int)]) := Lib.hid (Digit.rowOf_succ k)
      subst ha
      clear hx
      obtain ⟨wo, hwo⟩ : ∃ wo, wo = wr := ⟨_, rfl⟩
      subst hwo
      go_upto_region 7 with fail
      go_cut [] (fun wx => ∃ vo' vr', Hid (AL w wx w.heap.size X A vo' vr' vo' vr' u6 u7 (List.replicate (k + 1) A) (Digit.rowOf (k + 1)) (pairs (Walker.start l).left ((List.range k).filter (pLow l len A))) (pairs (Walker.start l).left ((List.range k).filter (fun i => !pLow l len A i)))))
      case first =>
        go_region_law (first
          | (refine step_row _ rfl _ _ 22 rfl Try.underlying22 info_int w w.heap.size X A vo vr vo vr u6 u7 (List.replicate k A) (Digit.rowOf k) _ _ (by simp [Act.eval, Act.put]) (HH.out.alloc _).drew hl1 wo.heap.size A (by simp [Act.eval, Act.put]) (lit_cell wo _ _) ?_; intro g4 c4 w4 hT4 hg4; obtain ⟨⟨s0, s1, s2⟩, t0, t1, t2⟩ := whole_cells hT4.box; obtain ⟨⟨sa0, sa1, sa2⟩, _, _, _⟩ := whole_cells (hT4.alloc (.cells #[.int .i64 (k : Int)] 3)).box)
          | (refine step_row _ rfl _ _ 22 rfl Try.underlying22 info_int w w.heap.size X A vo vr vo vr u6 u7 (List.replicate k A) (Digit.rowOf k) _ _ (by simp [Act.eval, Act.put]) ((HH.out.alloc _).alloc _).drew hl1 wo.heap.size A (by simp [Act.eval, Act.put]) (lit_cell_old wo _ _ _) ?_; intro g4 c4 w4 hT4 hg4; obtain ⟨⟨s0, s1, s2⟩, t0, t1, t2⟩ := whole_cells hT4.box; have hL4 := cell_grown hg4 (lit_cell_two wo (k : Int) 3 (.cells #[.int .i64 A] 3)) (by simp <;> omega) (HNE.out _ (by omega)))
          | (refine step_row _ rfl _ _ 22 rfl Try.underlying22 info_int w w.heap.size X A vo vr vo vr u6 u7 (List.replicate k A) (Digit.rowOf k) _ _ (by simp [Act.eval, Act.put]) ((HH.out.alloc _).alloc _).drew hl1 (wo.heap.size + 1) A (by simp [Act.eval, Act.put]) (lit_cell_two wo _ _ _) ?_; intro g4 c4 w4 hT4 hg4; obtain ⟨⟨s0, s1, s2⟩, t0, t1, t2⟩ := whole_cells hT4.box; have hL4 := cell_grown hg4 (lit_cell_old wo (k : Int) 3 (.cells #[.int .i64 A] 3)) (by simp <;> omega) (HNE.out _ (by omega)))
          | (refine step_row _ rfl _ _ 22 rfl Try.underlying22 info_int w w.heap.size X A vo vr vr _ u6 u7 (Digit.rowOf k) (List.replicate k A ++ [A]) _ _ (by simp [Act.eval, Act.put]) hT4.swap hl2 wo.heap.size (k : Int) (by simp [Act.eval, Act.put]) hL4 ?_; intro g8 c8 w8 hT8 hg8; obtain ⟨⟨y0, y1, y2⟩, q0, q1, q2⟩ := whole_cells hT8.box)
          | (refine step_row _ rfl _ _ 22 rfl Try.underlying22 info_int w w.heap.size X A vo vr vr _ u6 u7 (Digit.rowOf k) (List.replicate k A ++ [A]) _ _ (by simp [Act.eval, Act.put]) hT4.swap hl2 (wo.heap.size + 1) (k : Int) (by simp [Act.eval, Act.put]) hL4 ?_; intro g8 c8 w8 hT8 hg8; obtain ⟨⟨y0, y1, y2⟩, q0, q1, q2⟩ := whole_cells hT8.box)
          | (refine step_row _ rfl _ _ 22 rfl Try.underlying22 info_int w w.heap.size X A vo vr vr _ u6 u7 (Digit.rowOf k) (List.replicate k A ++ [A]) _ _ (by simp [Act.eval, Act.put]) (hT4.swap.alloc _) hl2 w4.heap.size (k : Int) (by simp [Act.eval, Act.put]) (lit_cell w4 _ _) ?_; intro g8 c8 w8 hT8 hg8; obtain ⟨⟨y0, y1, y2⟩, q0, q1, q2⟩ := whole_cells hT8.box))
        all_goals
          go_wp2_with fail
          go_meet
          case rel =>
            have h := hT8
            rw [List.length_replicate] at h
            exact ⟨_, _, Lib.hid (by rw [HSO.out, HSR.out]; exact h.swap.setBox)⟩
      case rest =>
      obtain ⟨vo2, vr2, HH2⟩ := hcut
      obtain ⟨wd, hwd⟩ : ∃ w', w' = wc := ⟨_, rfl⟩
      subst hwd
      clear HH HNE e0 e1 e2 r0 r1 r2 ea0 ea1 ea2 eb0 eb1 eb2 ec0 ec1 ec2 ed0 ed1 ed2 hl1 hl2 hsX c0
      obtain ⟨al, cl, hvl, _, _, _, _⟩ := HH2.out.ll.form
      obtain ⟨ah, ch, hvh, _, _, _, _⟩ := HH2.out.hh.form
      subst hvl hvh
      have HH8 := Lib.hid (HH2.out.alloc (.cells #[.int .i64 (k : Int), .int .i64 (x * (len : Int))] 77))
      have HB8 := Lib.hid ((Below.refl (wd.alloc (.cells #[.int .i64 (k : Int), .int .i64 (x * (len : Int))] 77)).heap.size (wd.alloc (.cells #[.int .i64 (k : Int), .int .i64 (x * (len : Int))] 77))).alloc (Nat.le_refl _) (.cells #[.int .i64 (k : Int), .int .i64 (x * (len : Int))] 77))
      have HOB := own_bit (wd.alloc (.cells #[.int .i64 (k : Int), .int .i64 (x * (len : Int))] 77)) (k : Int) (x * (len : Int))
      rw [show (wd.alloc (.cells #[.int .i64 (k : Int), .int .i64 (x * (len : Int))] 77)).heap.size = wd.heap.size + 1 from by simp] at HOB HB8
      have HOB := Lib.hid HOB
      have HS8 : Hid ((wd.alloc (.cells #[.int .i64 (k : Int), .int .i64 (x * (len : Int))] 77)).heap.size = wd.heap.size + 1) := Lib.hid (by simp)
      by_cases hlw : x * (len : Int) < A
      · have hpl := HPL.out
        rw [decide_eq_true hlw] at hpl
        have HRL := Lib.hid (range_low hpl)
        have HNW : Hid (pairs (Walker.start l).left ((List.range (k + 1)).filter (pLow l len A)) = ((k : Int), x * (len : Int)) :: pairs (Walker.start l).left ((List.range k).filter (pLow l len A))) := Lib.hid (by rw [HRL.out.1, pairs_push, HGL.out])
        have HNH : Hid (pairs (Walker.start l).left ((List.range (k + 1)).filter (fun i => !pLow l len A i)) = pairs (Walker.start l).left ((List.range k).filter (fun i => !pLow l len A i))) := Lib.hid (by rw [HRL.out.2])
        generalize pairs (Walker.start l).left ((List.range k).filter (pLow l len A)) = LW at *
        generalize pairs (Walker.start l).left ((List.range k).filter (fun i => !pLow l len A i)) = HG at *
        clear hpl HPL HGL HRL
        go_wp2_with (at_builtin; refine wpList_append_tab _ rfl _ _ 75 rfl (wd.heap.size + 1) 77 _ 2 16 Try.underlying75 info_bit rfl (by decide) _ ([((k : Int), x * (len : Int))].map iiC) rfl HOB.out al LW.length cl (LW.map iiC) _ HH8.out.ll.tab (by rw [show (wd.alloc (.cells #[.int .i64 (k : Int), .int .i64 (x * (len : Int))] 77)).heap.size = wd.heap.size + 1 from by simp]; exact HB8.out) rfl (rows_of iiC_len _) (one_of iiC_one _) (by have := HLN1.out.1; simp; omega) (by decide) (by simp) ?_; intro v6 w6 hO6 hg6)
        have hb6 := HOB.out.under HB8.out (Nat.le_refl _) (by simp) hg6
        go_roundg (len - (k + 1))
        case measure => have := HJ.out; omega
        case rel =>
          refine ⟨k + 1, vo2, vr2, by omega, by go_num, ?_⟩
          rw [HNW.out, HNH.out]
          exact Lib.hid (HH8.out.newLow (by rw [HS8.out]; exact hb6) (by rw [HS8.out]; exact hO6))
      · have hpl := HPL.out
        rw [decide_eq_false hlw] at hpl
        have HRL := Lib.hid (range_high hpl)
        have HNW : Hid (pairs (Walker.start l).left ((List.range (k + 1)).filter (pLow l len A)) = pairs (Walker.start l).left ((List.range k).filter (pLow l len A))) := Lib.hid (by rw [HRL.out.1])
        have HNH : Hid (pairs (Walker.start l).left ((List.range (k + 1)).filter (fun i => !pLow l len A i)) = ((k : Int), x * (len : Int)) :: pairs (Walker.start l).left ((List.range k).filter (fun i => !pLow l len A i))) := Lib.hid (by rw [HRL.out.2, pairs_push, HGL.out])
        generalize pairs (Walker.start l).left ((List.range k).filter (pLow l len A)) = LW at *
        generalize pairs (Walker.start l).left ((List.range k).filter (fun i => !pLow l len A i)) = HG at *
        have hlw' : A ≤ x * (len : Int) := by omega
        clear hpl HPL HGL HRL hlw
        go_wp2_with (at_builtin; refine wpList_append_tab _ rfl _ _ 75 rfl (wd.heap.size + 1) 77 _ 2 16 Try.underlying75 info_bit rfl (by decide) _ ([((k : Int), x * (len : Int))].map iiC) rfl HOB.out ah HG.length ch (HG.map iiC) _ HH8.out.hh.tab (by rw [show (wd.alloc (.cells #[.int .i64 (k : Int), .int .i64 (x * (len : Int))] 77)).heap.size = wd.heap.size + 1 from by simp]; exact HB8.out) rfl (rows_of iiC_len _) (one_of iiC_one _) (by have := HLN1.out.2; simp; omega) (by decide) (by simp) ?_; intro v6 w6 hO6 hg6)
        have hb6 := HOB.out.under HB8.out (Nat.le_refl _) (by simp) hg6
        go_roundg (len - (k + 1))
        case measure => have := HJ.out; omega
        case rel =>
          refine ⟨k + 1, vo2, vr2, by omega, by go_num, ?_⟩
          rw [HNW.out, HNH.out]
          exact Lib.hid (HH8.out.newHigh (by rw [HS8.out]; exact hb6) (by rw [HS8.out]; exact hO6))
    · obtain rfl : k = len := by omega
      have HS0 : Hid (AL w wr w.heap.size X A vo vr vo vr u6 u7 (Walker.start l).own (Walker.start l).rest (pairs (Walker.start l).left (Walker.start l).low) (pairs (Walker.start l).left (Walker.start l).high)) := by
        have h := HH.out
        have e1 : (Walker.start l).own = List.replicate k A := by unfold Walker.start; simp only; rw [HL.out, HA.out]
        have e2 : (Walker.start l).rest = Digit.rowOf k := by unfold Walker.start; simp only; rw [HL.out]; rfl
        have e3 : (Walker.start l).low = (List.range k).filter (pLow l k A) := by unfold Walker.start; simp only; rw [HL.out, HA.out]; rfl
        have e4 : (Walker.start l).high = (List.range k).filter (fun i => !pLow l k A i) := by unfold Walker.start; simp only; rw [HL.out, HA.out]; rfl
        rw [e1, e2, e3, e4]
        exact Lib.hid h
      have HI0 : Hid (Inv l A (Walker.start l)) := by have := HINV.out; rw [HA.out] at this; exact Lib.hid this
      have HN0 : Hid ((Walker.start l).act.length = k) := Lib.hid (by rw [start_len, HL.out])
      have HF0 : Hid (fillN A k (Walker.start l) = table l) := Lib.hid (by unfold table; rw [HA.out, HL.out])
      clear HH HJ hk hlt HINV HT
      go_wp2_with fail
      go_loopg [6, 7] k (fun g vl vh wr => ∃ (s : St) (vo vr : Value), Hid (s.act.length = g) ∧ Hid (Inv l A s) ∧ Hid (fillN A g s = table l) ∧ Hid (AL w wr w.heap.size X A vo vr vo vr vl vh s.own s.rest (pairs s.left s.low) (pairs s.left s.high)))
      case atStart => exact ⟨_, vo, vr, HN0, HI0, HF0, HS0⟩
      case round =>
        clear HS0 HI0 HN0 HF0
        obtain ⟨s, vo, vr, HN, HI, HF, HH⟩ := hrel
        obtain ⟨al, cl, hvl, _, _, _, _⟩ := HH.out.ll.form
        obtain ⟨ah, ch, hvh, _, _, _, _⟩ := HH.out.hh.form
        subst hvl hvh
        obtain ⟨wi, hwi⟩ : ∃ wi, wi = wr := ⟨_, rfl⟩
        subst hwi
        obtain ⟨O, co, hvo⟩ := own_form HH.out.oo (show s.own.length = k by rw [HI.out.lo, HL.out]) hpos
        obtain ⟨R, cr, hvr⟩ := own_form HH.out.rr (show s.rest.length = k by rw [HI.out.lr, HL.out]) hpos
        subst hvo hvr
        by_cases hlow : s.low = []
        · have HE2 : Hid (s = table l) := Lib.hid (by have := HF.out; rw [fillN_done hlow] at this; exact this)
          have hl0 : (pairs s.left s.low).length = 0 := by rw [hlow]; rfl
          rw [hl0]
          have hH1 : w.heap.size < X + 1 := by have := HH.out.hx; omega
          have HOO := Lib.hid ((((HH.out.oo.setCell (a := ⟨w.heap.size, 0, none⟩) hH1 (.int .i64 A)).setCell (a := ⟨w.heap.size, 1, none⟩) hH1 (.slice (some ⟨O, 0, none⟩) k co)).setCell (a := ⟨w.heap.size, 2, none⟩) hH1 (.slice (some ⟨R, 0, none⟩) k cr)).base_le (Nat.le_of_lt hH1))
          have HRR := Lib.hid ((((HH.out.rr.setCell (a := ⟨w.heap.size, 0, none⟩) hH1 (.int .i64 A)).setCell (a := ⟨w.heap.size, 1, none⟩) hH1 (.slice (some ⟨O, 0, none⟩) k co)).setCell (a := ⟨w.heap.size, 2, none⟩) hH1 (.slice (some ⟨R, 0, none⟩) k cr)).base_le (Nat.le_of_lt hH1))
          have HBB := Lib.hid (((HH.out.bel.setCell (p := ⟨w.heap.size, 0, none⟩) (Nat.le_refl _) (.int .i64 A)).setCell (p := ⟨w.heap.size, 1, none⟩) (Nat.le_refl _) (.slice (some ⟨O, 0, none⟩) k co)).setCell (p := ⟨w.heap.size, 2, none⟩) (Nat.le_refl _) (.slice (some ⟨R, 0, none⟩) k cr))
          obtain ⟨⟨y0, y1, y2⟩, _, _, _⟩ := whole_cells HH.out.box
          obtain ⟨⟨v0, v1, v2⟩, r0, r1, r2⟩ := whole_cells HH.out.res
          have HZZ := Lib.hid (whole_cells (whole_set (A' := A) (u' := .slice (some ⟨O, 0, none⟩) k co) (v' := .slice (some ⟨R, 0, none⟩) k cr) HH.out.res))
          clear HH HF HN HI hlow hl0 hH1
          go_wp2_with fail
          generalize (((wi.setCell { block := w.heap.size, off := 0 } (Value.int IntKind.i64 A)).setCell { block := w.heap.size, off := 1 } (.slice (some ⟨O, 0, none⟩) k co)).setCell { block := w.heap.size, off := 2 } (.slice (some ⟨R, 0, none⟩) k cr)) = w8 at *
          clear y0 y1 y2 v0 v1 v2 r0 r1 r2
          obtain ⟨⟨z0, z1, z2⟩, _, _, _⟩ := HZZ.out
          try simp only [Exit.inBlock, Exit.then]
          refine bodyPost_ret (by simp [results, Try.results18, go_sem, z0, z1, z2, Result.andThen]; try rfl) rfl ?_
          exact ⟨_, _, rfl, by have := HOO.out; rw [HE2.out] at this; exact this, by have := HRR.out; rw [HE2.out] at this; exact this, HBB.out⟩
        · obtain ⟨lw, c, h1⟩ : ∃ lw c, s.low = lw ++ [c] := ⟨_, _, (List.dropLast_concat_getLast hlow).symm⟩
          obtain ⟨hg, q, h2⟩ : ∃ hg q, s.high = hg ++ [q] := ⟨_, _, (List.dropLast_concat_getLast (HI.out.giver hlow)).symm⟩
          have hAL := HH.out
          rw [h1, h2, pairs_push, pairs_push, List.length_cons, List.length_cons] at hAL
          have e1 : (pairs s.left s.low).length = (pairs s.left lw).length + 1 := by rw [h1, pairs_push, List.length_cons]
          have e2 : (pairs s.left s.high).length = (pairs s.left hg).length + 1 := by rw [h2, pairs_push, List.length_cons]
          rw [e1, e2]
          have HIN := Lib.hid (HI.out.next h1 h2)
          have HPN := Lib.hid (pairs_next HI.out h1 h2)
          have HFN : Hid (∀ f, gk = f + 1 → fillN A f (next A s c q lw hg) = table l) := Lib.hid (fun f e => by have := HF.out; rw [e, fillN_step h1 h2] at this; exact this)
          have HAN : Hid ((next A s c q lw hg).act.length + 1 = gk) := Lib.hid (by have := (next_perm (A := A) h1 h2).length_eq; rw [List.length_cons] at this; have := HN.out; omega)
          have hcb : 0 ≤ g s.left c ∧ g s.left c < A := HI.out.low c (by rw [h1]; simp)
          have hqb : A ≤ g s.left q ∧ g s.left q ≤ 40000000000000 := HI.out.high q (by rw [h2]; simp)
          have hcl : c < k := by have := HI.out.lt c (by unfold St.act; rw [h1]; simp); rw [HL.out] at this; exact this
          have hlo : s.own.length = k ∧ s.rest.length = k := ⟨by rw [HI.out.lo, HL.out], by rw [HI.out.lr, HL.out]⟩
          obtain ⟨yo, hyo⟩ : ∃ y, s.own[c]? = some y := ⟨_, List.getElem?_eq_getElem (by rw [hlo.1]; exact hcl)⟩
          obtain ⟨yr, hyr⟩ : ∃ y, s.rest[c]? = some y := ⟨_, List.getElem?_eq_getElem (by rw [hlo.2]; exact hcl)⟩
          have HNX : Hid ((next A s c q lw hg).own = s.own.set c (g s.left c) ∧ (next A s c q lw hg).rest = s.rest.set c (q : Int)) := Lib.hid ⟨rfl, rfl⟩
          have HML : Hid ((pairs s.left lw).length ≤ 40 ∧ (pairs s.left hg).length ≤ 40) := Lib.hid (by
            rw [pairs_len, pairs_len]
            have h3 := nodup_le HI.out.nd (fun i hi => HI.out.lt i hi)
            unfold St.act at h3
            rw [h1, h2] at h3
            simp at h3
            rw [HL.out] at h3
            omega)
          generalize pairs s.left lw = LW at *
          generalize pairs s.left hg = HG at *
          generalize g s.left c = lc at *
          generalize g s.left q = lq at *
          have HAL := Lib.hid hAL
          obtain ⟨gl, ol, hal, _, hgl, cl0, cl1, fl0, fl1⟩ := hAL.ll.head
          obtain ⟨gh, oh, hah, _, hgh, ch0, ch1, fh0, fh1⟩ := hAL.hh.head
          subst hal hah
          simp only at cl0 cl1 ch0 ch1
          have hOR : O ≠ R := fun e => hAL.a1 O rfl (by rw [e]; rfl)
          have hRO : R ≠ O := fun e => hOR e.symm
          have nb1 : 0 ≤ lq - (A - lc) := by omega
          have nb2 : lq - (A - lc) ≤ 40000000000000 := by omega
          have HYO := Lib.hid (And.intro hyo hyr)
          clear hAL HH HF HN HI e1 e2 h1 h2 hlow hyo hyr hlo
          go_upto_region 14 with fail
          go_cut [11, 12] (fun pa pb wx => ∃ Ba Bb : Nat, pa = .pointer (some ⟨Ba, 0, none⟩) ∧ pb = .pointer (some ⟨Bb, 0, none⟩) ∧ Hid (AB w wx w.heap.size X A (.slice (some ⟨O, 0, none⟩) k co) (.slice (some ⟨R, 0, none⟩) k cr) (.slice (some ⟨gl, ol, none⟩) (LW.length + 1) cl) (.slice (some ⟨gh, oh, none⟩) (HG.length + 1) ch) s.own s.rest (((c : Int), lc) :: LW) (((q : Int), lq) :: HG) Ba Bb c lc q lq))
          case first =>
            go_region
            all_goals
              go_wp2_with fail
              go_meet
              case rel => first | exact ⟨_, _, rfl, rfl, Lib.hid (AB.new HAL.out _ _ _ _)⟩ | exact ⟨_, _, rfl, rfl, Lib.hid (AB.new' HAL.out _ _ _ _)⟩
          case rest =>
          obtain ⟨Ba, Bb, rfl, rfl, HB⟩ := hcut
          obtain ⟨wd, hwd⟩ : ∃ w', w' = wc := ⟨_, rfl⟩
          subst hwd
          have rF := run_from 75 77 2 Try.underlying75 elem_bit size_bit (some ⟨gl, ol, none⟩) (LW.length + 1) cl 1 (by omega)
          have hB15 := HB.out.tailLow
          rw [Nat.add_sub_cancel] at rF hB15
          rw [show ((1 : Nat) : Int) = 1 from rfl] at rF
          have HB15 := Lib.hid hB15
          generalize hvl2 : fromA (some ⟨gl, ol, none⟩) cl 1 2 = al2 at *
          clear hB15 HB HAL cl0 cl1 fl0 fl1 ch0 ch1 fh0 fh1 hgl hgh hvl2
          generalize (some (Addr.mk gl ol none)) = alv at *
          go_upto_region 16 with fail
          clear rF
          go_cut [] (fun wx => Hid (AB w wx w.heap.size X A (.slice (some ⟨O, 0, none⟩) k co) (.slice (some ⟨R, 0, none⟩) k cr) (.slice al2 LW.length (cl - 1)) (.slice (some ⟨gh, oh, none⟩) (HG.length + 1) ch) (s.own.set c lc) (s.rest.set c (q : Int)) LW (((q : Int), lq) :: HG) Ba Bb c lc q lq))
          case first =>
            obtain ⟨⟨e0, e1, e2⟩, _, _, _⟩ := whole_cells HB15.out.al.box
            obtain ⟨⟨x0, x1⟩, _, _⟩ := bit_cells HB15.out.ba
            obtain ⟨⟨b0, b1⟩, _, _⟩ := bit_cells HB15.out.bb
            obtain ⟨d1, d2, _, _⟩ := HB15.out.al.oo.at1 (map_get HYO.out.1)
            obtain ⟨d3, d4, _, _⟩ := HB15.out.al.rr.at1 (map_get HYO.out.2)
            obtain ⟨d5, d6, _, _⟩ := (HB15.out.al.setO HYO.out.1 lc).rr.at1 (map_get HYO.out.2)
            have nOa : Ba ≠ O := fun e => HB15.out.fa.n1 (by rw [e]; rfl)
            have nOb : Bb ≠ O := fun e => HB15.out.fb.n1 (by rw [e]; rfl)
            obtain ⟨⟨xa0, xa1⟩, _, _⟩ := bit_cells (box_other (G := O) (i := c) (u := .int .i64 lc) HB15.out.ba nOa)
            obtain ⟨⟨xb0, xb1⟩, _, _⟩ := bit_cells (box_other (G := O) (i := c) (u := .int .i64 lc) HB15.out.bb nOb)
            obtain ⟨⟨g0, g1, g2⟩, _, _, _⟩ := whole_cells (HB15.out.al.setO HYO.out.1 lc).box
            go_region
            all_goals
              go_wp2_with fail
              go_meet
              case rel => first | exact Lib.hid (HB15.out.setOR HYO.out.1 HYO.out.2 lc q) | exact Lib.hid (HB15.out.setOR HYO.out.1 HYO.out.2 lc q).drew | exact Lib.hid (HB15.out.drew.setOR HYO.out.1 HYO.out.2 lc q)
          case rest =>
          have HB16 : Hid (AB w wc w.heap.size X A (.slice (some ⟨O, 0, none⟩) k co) (.slice (some ⟨R, 0, none⟩) k cr) (.slice al2 LW.length (cl - 1)) (.slice (some ⟨gh, oh, none⟩) (HG.length + 1) ch) (s.own.set c lc) (s.rest.set c (q : Int)) LW (((q : Int), lq) :: HG) Ba Bb c lc q lq) := hcut
          clear hcut HB15
          obtain ⟨we, hwe⟩ : ∃ w', w' = wc := ⟨_, rfl⟩
          subst hwe
          obtain ⟨⟨x0, x1⟩, xf0, xf1⟩ := bit_cells HB16.out.ba
          obtain ⟨⟨b0, b1⟩, bf0, bf1⟩ := bit_cells HB16.out.bb
          have HB17 := Lib.hid (HB16.out.setB (lq - (A - lc)))
          obtain ⟨⟨b2, b3⟩, _, _⟩ := bit_cells HB17.out.bb
          obtain ⟨gh', oh', hh1, _, _, h0, h1, hf0, hf1⟩ := HB17.out.al.hh.head
          simp only [Option.some.injEq, Addr.mk.injEq, and_true] at hh1
          obtain ⟨rfl, rfl⟩ := hh1
          simp only at h0 h1
          have HB18 := Lib.hid (HB17.out.putHigh (q : Int) (lq - (A - lc)))
          obtain ⟨⟨b4, b5⟩, _, _⟩ := bit_cells HB18.out.bb
          have rFh := run_from 75 77 2 Try.underlying75 elem_bit size_bit (some ⟨gh, oh, none⟩) (HG.length + 1) ch 1 (by omega)
          rw [Nat.add_sub_cancel] at rFh
          rw [show ((1 : Nat) : Int) = 1 from rfl] at rFh
          clear HB16 HB17
          go_upto_region 19 with fail
          generalize ((we.setCell ⟨Bb, 1, none⟩ (.int .i64 (lq - (A - lc)))).setCell ⟨gh, oh, none⟩ (.int .i64 (q : Int))).setCell ⟨gh, oh + 1, none⟩ (.int .i64 (lq - (A - lc))) = W18 at *
          clear x0 x1 xf0 xf1 b0 b1 bf0 bf1 b2 b3 h0 h1 hf0 hf1
          by_cases hnew : lq - (A - lc) < A
          · obtain ⟨hp1, hp2⟩ := HPN.out.1 hnew
            have HP := Lib.hid (And.intro hp1 hp2)
            have hAL2 := HB18.out.al.tailHigh
            rw [Nat.add_sub_cancel] at hAL2
            have HAL2 := Lib.hid hAL2
            have HOB := Lib.hid (own_bit W18 (q : Int) (lq - (A - lc)))
            have HB8 := Lib.hid ((Below.refl W18.heap.size W18).alloc (Nat.le_refl _) (.cells #[.int .i64 (q : Int), .int .i64 (lq - (A - lc))] 77))
            generalize hvh2 : fromA (some ⟨gh, oh, none⟩) ch 1 2 = ah2 at *
            clear hp1 hp2 hAL2 hvh2 HPN HB18
            generalize (some (Addr.mk gh oh none)) = ahv at *
            go_wp2_with (at_builtin; refine wpList_append_tab _ rfl _ _ 75 rfl W18.heap.size 77 _ 2 16 Try.underlying75 info_bit rfl (by decide) _ ([((q : Int), lq - (A - lc))].map iiC) rfl HOB.out al2 LW.length (cl - 1) (LW.map iiC) _ HAL2.out.ll.tab HB8.out rfl (rows_of iiC_len _) (one_of iiC_one _) (by have := HML.out.1; simp; omega) (by decide) (by simp) ?_; intro v6 w6 hO6 hg6)
            have hb6 := HOB.out.under HB8.out (Nat.le_refl _) (by simp) hg6
            go_roundg ((next A s c q lw hg).act.length)
            case measure => have := HAN.out; omega
            case rel =>
              refine ⟨next A s c q lw hg, .slice (some ⟨O, 0, none⟩) k co, .slice (some ⟨R, 0, none⟩) k cr, Lib.hid rfl, HIN, Lib.hid (HFN.out _ HAN.out.symm), ?_⟩
              rw [HP.out.1, HP.out.2, HNX.out.1, HNX.out.2]
              exact Lib.hid (HAL2.out.newLow hb6 hO6)
          · have hnew' : A ≤ lq - (A - lc) := by omega
            have HP := Lib.hid (HPN.out.2 hnew')
            clear hnew HPN rFh
            go_wp2_with fail
            go_roundg ((next A s c q lw hg).act.length)
            case measure => have := HAN.out; omega
            case rel =>
              refine ⟨next A s c q lw hg, .slice (some ⟨O, 0, none⟩) k co, .slice (some ⟨R, 0, none⟩) k cr, Lib.hid rfl, HIN, Lib.hid (HFN.out _ HAN.out.symm), ?_⟩
              rw [HP.out.1, HP.out.2, HNX.out.1, HNX.out.2]
              exact Lib.hid HB18.out.al
end Go.Proofs.Yteddoccgbebbeab
