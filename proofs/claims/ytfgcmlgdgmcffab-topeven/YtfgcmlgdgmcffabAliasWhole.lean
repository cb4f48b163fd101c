/- The contract of the program's alias.whole. -/
import Derived.Test.YtfgcmlgdgmcffabMany
import Derived.Test.YtfgcmlgdgmcffabCloneInts
import Derived.Test.YtfgcmlgdgmcffabDigitMath
import Derived.Deep.LoopGhost
import Derived.Deep.DeepCutAuto
import Derived.RegionTactic
import Derived.BigRegion
namespace Go.Proofs.Ytfgcmlgdgmcffab
open Go.ChangeShapes Go.WideShapes Go.ChangeAt Go.RowKit
open Digit

theorem made_own (W : World) (b n : Nat) (hb : b ≤ W.heap.size) (h : n ≤ maxLen) : Own (W.alloc (.cells (madeCells (Value.int .i64 0).cells (n * 1)) 3)) b 3 1 (.slice (some ⟨W.heap.size, 0, none⟩) n n) ((List.replicate n (0 : Int)).map iC) :=
  Own.full (World.ownsRow_lit W _ n hb h (size_madeCells _ _)) (made_ints n)
theorem made_run (n : Nat) (hn : n ≤ 40) (W : World) : (Instr.makeSlice 26 (.int .i64 (n : Int)) (.int .i64 (n : Int))).run Try.prog W = .ok (.slice (some ⟨W.heap.size, 0, none⟩) n n) (W.alloc (.cells (madeCells (Value.int .i64 0).cells (n * 1)) 3)) := by
  obtain ⟨i0, hi, hz0, hz1, hz2⟩ := info_parts info_int
  have hr := run_make (P := Try.prog) W 26 3 i0 (.int .i64 0) Try.underlying26 hi hz0 .i64 .i64 n n (by omega) (Int.le_refl _) (by rw [hz2]; omega) (by omega)
  rw [hz1] at hr
  simpa using hr
theorem put_pad {A : List Int} {k n : Nat} (hA : A.length = k) (h : k < n) (x : Int) : (A ++ List.replicate (n - k) (0 : Int)).set k x = (A ++ [x]) ++ List.replicate (n - (k + 1)) 0 := by
  rw [List.set_append_right _ _ (by omega), hA, Nat.sub_self, show n - k = n - (k + 1) + 1 from by omega, List.replicate_succ, List.set_cons_zero, List.append_assoc]
  rfl
theorem get_pad {A : List Int} {k n : Nat} (hA : A.length = k) (h : k < n) : (A ++ List.replicate (n - k) (0 : Int))[k]? = some 0 := by
  rw [List.getElem?_append_right (by omega), hA, Nat.sub_self, show n - k = n - (k + 1) + 1 from by omega, List.replicate_succ]; rfl
/-- the table in its variable, block P, behind the result's block H; its two slices in blocks O and R -/
structure Whole (w wr : World) (H P O R n : Nat) (A : Int) (u v : List Int) : Prop where
  many : Many wr (H + 1) 3 [(.slice (some ⟨O, 0, none⟩) n n, u), (.slice (some ⟨R, 0, none⟩) n n, v)]
  blk : wr.heap[P]? = some (.cells #[.int .i64 A, .slice (some ⟨O, 0, none⟩) n n, .slice (some ⟨R, 0, none⟩) n n] 72 (0, 0))
  res : wr.heap[H]? = some (.cells #[.int .i64 0, .slice none 0 0, .slice none 0 0] 72 (0, 0))
  bel : Below H w wr
  hp : H < P
  po : P ≠ O
  pr : P ≠ R
  ho : H < O
  hr : H < R
theorem whole_cells {w : World} {b : Nat} {A : Int} {u v : Value} {t : TypeId} (h : w.heap[b]? = some (.cells #[.int .i64 A, u, v] t (0, 0))) :
    (w.cell? ⟨b, 0, none⟩ = some (.int .i64 A) ∧ w.cell? ⟨b, 1, none⟩ = some u ∧ w.cell? ⟨b, 2, none⟩ = some v) ∧ w.frozen? ⟨b, 0, none⟩ = false ∧ w.frozen? ⟨b, 1, none⟩ = false ∧ w.frozen? ⟨b, 2, none⟩ = false :=
  ⟨⟨cell_blk h rfl, cell_blk h rfl, cell_blk h rfl⟩, frozen_blk h, frozen_blk h, frozen_blk h⟩
theorem whole_set {w : World} {b : Nat} {A A' : Int} {u v u' v' : Value} {t : TypeId} (h : w.heap[b]? = some (.cells #[.int .i64 A, u, v] t (0, 0))) :
    (((w.setCell ⟨b, 0, none⟩ (.int .i64 A')).setCell ⟨b, 1, none⟩ u').setCell ⟨b, 2, none⟩ v').heap[b]? = some (.cells #[.int .i64 A', u', v'] t (0, 0)) := by
  have h0 := heap_setCell_same w b 0 _ _ (.int .i64 A') h
  have h1 := heap_setCell_same _ b 1 _ _ u' h0
  have h2 := heap_setCell_same _ b 2 _ _ v' h1
  rw [h2]
  rfl
theorem Whole.setO {w wr : World} {H P O R n : Nat} {A : Int} {u v : List Int} (h : Whole w wr H P O R n A u v) {i : Nat} {y : Int} (hy : u[i]? = some y) (z : Int) : Whole w (wr.setCell ⟨O, i, none⟩ (.int .i64 z)) H P O R n A (u.set i z) v :=
  ⟨Many.set (A := []) h.many hy z, by rw [Below.heap_setCell _ _ _ _ h.po]; exact h.blk, by rw [Below.heap_setCell _ _ _ _ (show H ≠ O from Nat.ne_of_lt h.ho)]; exact h.res, h.bel.setCell (Nat.le_of_lt h.ho) _, h.hp, h.po, h.pr, h.ho, h.hr⟩
theorem Whole.setR {w wr : World} {H P O R n : Nat} {A : Int} {u v : List Int} (h : Whole w wr H P O R n A u v) {i : Nat} {y : Int} (hy : v[i]? = some y) (z : Int) : Whole w (wr.setCell ⟨R, i, none⟩ (.int .i64 z)) H P O R n A u (v.set i z) :=
  ⟨Many.set (A := [(.slice (some ⟨O, 0, none⟩) n n, u)]) h.many hy z, by rw [Below.heap_setCell _ _ _ _ h.pr]; exact h.blk, by rw [Below.heap_setCell _ _ _ _ (show H ≠ R from Nat.ne_of_lt h.hr)]; exact h.res, h.bel.setCell (Nat.le_of_lt h.hr) _, h.hp, h.po, h.pr, h.ho, h.hr⟩

theorem Whole.drew {w wr : World} {H P O R n : Nat} {A : Int} {u v : List Int} (h : Whole w wr H P O R n A u v) : Whole w wr.drew H P O R n A u v :=
  ⟨h.many.drew, h.blk, h.res, h.bel.drew, h.hp, h.po, h.pr, h.ho, h.hr⟩
theorem Whole.of {w W : World} {P O R n : Nat} {A : Int} {u v : List Int} (o1 : Own W (w.heap.size + 1) 3 1 (.slice (some ⟨O, 0, none⟩) n n) (u.map iC)) (o2 : Own W (w.heap.size + 1) 3 1 (.slice (some ⟨R, 0, none⟩) n n) (v.map iC)) (hne : O ≠ R)
    (blk : W.heap[P]? = some (.cells #[.int .i64 A, .slice (some ⟨O, 0, none⟩) n n, .slice (some ⟨R, 0, none⟩) n n] 72 (0, 0))) (res : W.heap[w.heap.size]? = some (.cells #[.int .i64 0, .slice none 0 0, .slice none 0 0] 72 (0, 0)))
    (bel : Below w.heap.size w W) (hp : w.heap.size < P) (po : P ≠ O) (pr : P ≠ R) (ho : w.heap.size < O) (hr : w.heap.size < R) : Whole w W w.heap.size P O R n A u v :=
  by
  refine ⟨⟨fun p hp => ?_, ?_⟩, blk, res, bel, hp, po, pr, ho, hr⟩
  · rcases List.mem_cons.1 hp with rfl | hp
    · exact o1
    · rcases List.mem_cons.1 hp with rfl | hp
      · exact o2
      · cases hp
  · rw [List.pairwise_cons]
    refine ⟨fun q hq => ?_, List.pairwise_singleton ..⟩
    rcases List.mem_cons.1 hq with rfl | hq
    · intro g h1 h2
      simp [Value.ownBlock] at h1 h2
      omega
    · cases hq
theorem heap_new0 (w : World) (a b c d : Obj) : ((((w.alloc a).alloc b).alloc c).alloc d).heap[w.heap.size]? = some a := by
  rw [Below.heap_alloc _ _ _ (by simp <;> omega), Below.heap_alloc _ _ _ (by simp <;> omega), Below.heap_alloc _ _ _ (by simp)]
  exact (MapKept.heap_alloc _ _).1
theorem heap_new1 (w : World) (a b c d : Obj) : ((((w.alloc a).alloc b).alloc c).alloc d).heap[w.heap.size + 1]? = some b := by
  rw [Below.heap_alloc _ _ _ (by simp <;> omega), Below.heap_alloc _ _ _ (by simp <;> omega)]
  have := (MapKept.heap_alloc (w.alloc a) b).1
  rwa [show (w.alloc a).heap.size = w.heap.size + 1 from by simp] at this
theorem heap_new2 (w : World) (a b c d : Obj) : ((((w.alloc a).alloc b).alloc c).alloc d).heap[w.heap.size + 1 + 1]? = some c := by
  rw [Below.heap_alloc _ _ _ (by simp <;> omega)]
  have := (MapKept.heap_alloc ((w.alloc a).alloc b) c).1
  rwa [show ((w.alloc a).alloc b).heap.size = w.heap.size + 1 + 1 from by simp] at this
theorem heap_new3 (w : World) (a b c d : Obj) : ((((w.alloc a).alloc b).alloc c).alloc d).heap[w.heap.size + 1 + 1 + 1]? = some d := by
  have := (MapKept.heap_alloc (((w.alloc a).alloc b).alloc c) d).1
  rwa [show (((w.alloc a).alloc b).alloc c).heap.size = w.heap.size + 1 + 1 + 1 from by simp] at this

set_option maxRecDepth 100000 in
set_option maxHeartbeats 1000000 in
theorem whole_any (A : Int) (n : Nat) (hn : n ≤ 40) (w : World) :
    Calls Try.prog 52 #[.int .i64 A, .int .i64 n] w fun e w' => ∃ O R : Nat, e = .returned (.agg #[.int .i64 A, .slice (some ⟨O, 0, none⟩) n n, .slice (some ⟨R, 0, none⟩) n n]) ∧
      Many w' w.heap.size 3 [(.slice (some ⟨O, 0, none⟩) n n, List.replicate n A), (.slice (some ⟨R, 0, none⟩) n n, rowOf n)] ∧ Below w.heap.size w w' := by
  obtain ⟨Z, hZ⟩ : ∃ Z, Z = madeCells (Value.int .i64 0).cells (n * 1) := ⟨_, rfl⟩
  have hmk : ∀ W, (Instr.makeSlice 26 (.int .i64 (n : Int)) (.int .i64 (n : Int))).run Try.prog W = .ok (.slice (some ⟨W.heap.size, 0, none⟩) n n) (W.alloc (.cells Z 3)) := fun W => by rw [hZ]; exact made_run n hn W
  have HM : Hid (∀ (W : World) (b : Nat), b ≤ W.heap.size → Own (W.alloc (.cells Z 3)) b 3 1 (.slice (some ⟨W.heap.size, 0, none⟩) n n) ((List.replicate n (0 : Int)).map iC)) := Lib.hid (fun W b hb => by rw [hZ]; exact made_own W b n hb (by unfold maxLen; omega))
  clear hZ
  go_enter Try.func52, Try.ntmps52
  go_upto_region 1 with fail
  go_cut [5] (fun s wx => ∃ P O R : Nat, s = .pointer (some ⟨P, 0, none⟩) ∧ Hid (Whole w wx w.heap.size P O R n A (List.replicate n 0) (List.replicate n 0)))
  case first =>
    have sz : ∀ o : Obj, (w.alloc o).heap.size = w.heap.size + 1 := fun o => by simp
    have sz2 : ∀ o o' : Obj, ((w.alloc o).alloc o').heap.size = w.heap.size + 1 + 1 := fun o o' => by simp
    have sz3 : ∀ o o' o'' : Obj, (((w.alloc o).alloc o').alloc o'').heap.size = w.heap.size + 1 + 1 + 1 := fun o o' o'' => by simp
    have q1 : ∀ o, Own ((w.alloc o).alloc (.cells Z 3)) (w.heap.size + 1) 3 1 (.slice (some ⟨w.heap.size + 1, 0, none⟩) n n) ((List.replicate n (0 : Int)).map iC) := fun o => by
      have := HM.out (w.alloc o) (w.heap.size + 1) (by simp)
      rwa [sz] at this
    have q2 : ∀ o o', Own (((w.alloc o).alloc o').alloc (.cells Z 3)) (w.heap.size + 1) 3 1 (.slice (some ⟨w.heap.size + 1 + 1, 0, none⟩) n n) ((List.replicate n (0 : Int)).map iC) := fun o o' => by
      have := HM.out ((w.alloc o).alloc o') (w.heap.size + 1) (by simp)
      rwa [sz2] at this
    have q3 : ∀ o o' o'', Own ((((w.alloc o).alloc o').alloc o'').alloc (.cells Z 3)) (w.heap.size + 1) 3 1 (.slice (some ⟨w.heap.size + 1 + 1 + 1, 0, none⟩) n n) ((List.replicate n (0 : Int)).map iC) := fun o o' o'' => by
      have := HM.out (((w.alloc o).alloc o').alloc o'') (w.heap.size + 1) (by simp <;> omega)
      rwa [sz3] at this
    have bl : ∀ o o' o'' o''' : Obj, Below w.heap.size w ((((w.alloc o).alloc o').alloc o'').alloc o''') := fun o o' o'' o''' => (((((Below.refl _ _).alloc (Nat.le_refl _) o).alloc (by simp) o').alloc (by simp <;> omega) o'').alloc (by simp <;> omega) o''')
    have HQ := Lib.hid (And.intro q1 (And.intro q2 (And.intro q3 bl)))
    clear sz sz2 sz3 q1 q2 q3 bl
    go_region
    all_goals
      go_wp2_with fail
      go_meet
      case rel =>
        obtain ⟨q1, q2, q3, bl⟩ := HQ.out
        first
          | exact ⟨w.heap.size + 1, w.heap.size + 1 + 1, w.heap.size + 1 + 1 + 1, rfl, Lib.hid (Whole.drew (Whole.of ((q2 _ _).alloc _) (q3 _ _ _) (by omega) (heap_new1 _ _ _ _ _) (heap_new0 _ _ _ _ _) (bl _ _ _ _) (by omega) (by omega) (by omega) (by omega) (by omega)))⟩
          | exact ⟨w.heap.size + 1, w.heap.size + 1 + 1 + 1, w.heap.size + 1 + 1, rfl, Lib.hid (Whole.drew (Whole.of (q3 _ _ _) ((q2 _ _).alloc _) (by omega) (heap_new1 _ _ _ _ _) (heap_new0 _ _ _ _ _) (bl _ _ _ _) (by omega) (by omega) (by omega) (by omega) (by omega)))⟩
          | exact ⟨w.heap.size + 1 + 1, w.heap.size + 1, w.heap.size + 1 + 1 + 1, rfl, Lib.hid (Whole.drew (Whole.of (((q1 _).alloc _).alloc _) (q3 _ _ _) (by omega) (heap_new2 _ _ _ _ _) (heap_new0 _ _ _ _ _) (bl _ _ _ _) (by omega) (by omega) (by omega) (by omega) (by omega)))⟩
          | exact ⟨w.heap.size + 1 + 1, w.heap.size + 1 + 1 + 1, w.heap.size + 1, rfl, Lib.hid (Whole.drew (Whole.of (q3 _ _ _) (((q1 _).alloc _).alloc _) (by omega) (heap_new2 _ _ _ _ _) (heap_new0 _ _ _ _ _) (bl _ _ _ _) (by omega) (by omega) (by omega) (by omega) (by omega)))⟩
          | exact ⟨w.heap.size + 1 + 1 + 1, w.heap.size + 1, w.heap.size + 1 + 1, rfl, Lib.hid (Whole.drew (Whole.of (((q1 _).alloc _).alloc _) ((q2 _ _).alloc _) (by omega) (heap_new3 _ _ _ _ _) (heap_new0 _ _ _ _ _) (bl _ _ _ _) (by omega) (by omega) (by omega) (by omega) (by omega)))⟩
          | exact ⟨w.heap.size + 1 + 1 + 1, w.heap.size + 1 + 1, w.heap.size + 1, rfl, Lib.hid (Whole.drew (Whole.of ((q2 _ _).alloc _) (((q1 _).alloc _).alloc _) (by omega) (heap_new3 _ _ _ _ _) (heap_new0 _ _ _ _ _) (bl _ _ _ _) (by omega) (by omega) (by omega) (by omega) (by omega)))⟩
  case rest =>
  obtain ⟨P, O, R, rfl, HW⟩ := hcut
  clear hmk HM
  have HW0 : Hid (Whole w wc w.heap.size P O R n A (List.replicate 0 A ++ List.replicate (n - 0) 0) (rowOf 0 ++ List.replicate (n - 0) 0)) := HW
  clear HW
  go_wp2_with fail
  go_loopg [14] n (fun g i wr => ∃ k : Nat, k + g = n ∧ i = .int .i64 k ∧ Hid (Whole w wr w.heap.size P O R n A (List.replicate k A ++ List.replicate (n - k) 0) (rowOf k ++ List.replicate (n - k) 0)))
  case atStart => exact ⟨0, by omega, rfl, HW0⟩
  case round =>
    clear HW0
    obtain ⟨k, hk0, rfl, HW⟩ := hrel
    have HJ := Lib.hid hk0
    have hk : k ≤ n := by omega
    clear hk0
    by_cases hlt : k < n
    · have g1 := get_pad (A := List.replicate k A) (k := k) (n := n) (by simp) hlt
      have g2 := get_pad (A := rowOf k) (k := k) (n := n) (rowOf_len k) hlt
      obtain ⟨c1, f1, p1, p1'⟩ := (HW.out.many.at (List.mem_cons_self ..)).at1 (map_get g1)
      have W1 := HW.out.setO g1 A
      obtain ⟨c2, f2, p2, p2'⟩ := (W1.many.at (List.mem_cons_of_mem _ (List.mem_cons_self ..))).at1 (map_get g2)
      have W2 := W1.setR g2 (k : Int)
      rw [put_pad (by simp) hlt, put_pad (rowOf_len k) hlt, ← rowOf_succ, ← List.replicate_succ'] at W2
      obtain ⟨⟨x0, x1, x2⟩, _, _, _⟩ := whole_cells HW.out.blk
      obtain ⟨⟨y0, y1, y2⟩, _, _, _⟩ := whole_cells W1.blk
      have HW2 := Lib.hid W2
      clear W1 W2 g1 g2
      go_wp2_with fail
      go_roundg (n - (k + 1))
      case measure => have := HJ.out; omega
      case rel => exact ⟨k + 1, by omega, by go_num, HW2⟩
    · obtain rfl : k = n := by omega
      have hW := HW.out
      rw [Nat.sub_self, List.replicate_zero, List.append_nil, List.append_nil] at hW
      obtain ⟨⟨x0, x1, x2⟩, _, _, _⟩ := whole_cells hW.blk
      obtain ⟨⟨y0, y1, y2⟩, r0, r1, r2⟩ := whole_cells hW.res
      have Z := whole_cells (whole_set (A' := A) (u' := .slice (some ⟨O, 0, none⟩) k k) (v' := .slice (some ⟨R, 0, none⟩) k k) hW.res)
      have hM := hW.many
      have hb := ((hW.bel.setCell (p := ⟨w.heap.size, 0, none⟩) (Nat.le_refl _) (.int .i64 A)).setCell (p := ⟨w.heap.size, 1, none⟩) (Nat.le_refl _) (.slice (some ⟨O, 0, none⟩) k k)).setCell (p := ⟨w.heap.size, 2, none⟩) (Nat.le_refl _) (.slice (some ⟨R, 0, none⟩) k k)
      have hM2 : Many (((wr.setCell ⟨w.heap.size, 0, none⟩ (.int .i64 A)).setCell ⟨w.heap.size, 1, none⟩ (.slice (some ⟨O, 0, none⟩) k k)).setCell ⟨w.heap.size, 2, none⟩ (.slice (some ⟨R, 0, none⟩) k k)) w.heap.size 3 [(.slice (some ⟨O, 0, none⟩) k k, List.replicate k A), (.slice (some ⟨R, 0, none⟩) k k, rowOf k)] :=
        ⟨fun p hp => ((((hM.own p hp).setCell (a := ⟨w.heap.size, 0, none⟩) (Nat.lt_succ_self _) _).setCell (a := ⟨w.heap.size, 1, none⟩) (Nat.lt_succ_self _) _).setCell (a := ⟨w.heap.size, 2, none⟩) (Nat.lt_succ_self _) _).base_le (Nat.le_succ _), hM.apart⟩
      have HZ := Lib.hid Z
      have HM2 := Lib.hid (And.intro hM2 hb)
      clear hW hM Z hM2 hb
      go_wp2_with fail
      generalize (((wr.setCell { block := w.heap.size, off := 0 } (Value.int IntKind.i64 A)).setCell { block := w.heap.size, off := 1 } (.slice (some ⟨O, 0, none⟩) k k)).setCell { block := w.heap.size, off := 2 } (.slice (some ⟨R, 0, none⟩) k k)) = w3 at *
      clear x0 x1 x2 y0 y1 y2 r0 r1 r2
      obtain ⟨⟨z0, z1, z2⟩, _, _, _⟩ := HZ.out
      try simp only [Exit.inBlock, Exit.then]
      refine bodyPost_ret (by simp [results, Try.results52, go_sem, z0, z1, z2, Result.andThen]; try rfl) rfl ?_
      exact ⟨O, R, rfl, HM2.out.1, HM2.out.2⟩
end Go.Proofs.Ytfgcmlgdgmcffab
