/- sort.Reverse of sort.IntSlice over a slice of ints that the call made itself is a value that sort.Sort can take. -/
import Derived.Test.YtffgoekdjcempaaGreatSrtBase
import Derived.Test.YtffgoekdjcempaaGreatDigitMath
import Derived.Test.YtffgoekdjcempaaGreatCopyInto
import Derived.Test.YtffgoekdjcempaaGreatOwnTwo
import Derived.Test.YtffgoekdjcempaaGreatGr3
import Derived.RegionTactic
import Derived.BigRegion
import Derived.BigQuiet
namespace Go.Proofs.YtffgoekdjcempaaGreat
open Go.ChangeShapes Go.WideShapes Go.ChangeAt Go.RowKit

open Digit
theorem swap_map {l : List Int} {i j : Nat} {x y : Int} (hi : l[i]? = some x) (hj : l[j]? = some y) : (((l.map iC).set i [.int .i64 y]).set j [.int .i64 x]) = (swapAt l i j).map iC := by
  unfold swapAt
  rw [hi, hj, List.map_set, List.map_set]
  rfl
theorem Own.swap {w : World} {base : Nat} {e : TypeId} {g n cap : Nat} {l : List Int} {i j : Nat} {x y : Int} (h : Own w base e 1 (.slice (some ⟨g, 0, none⟩) n cap) (l.map iC)) (hi : l[i]? = some x) (hj : l[j]? = some y) :
    Own ((w.setCell ⟨g, i, none⟩ (.int .i64 y)).setCell ⟨g, j, none⟩ (.int .i64 x)) base e 1 (.slice (some ⟨g, 0, none⟩) n cap) ((swapAt l i j).map iC) := by
  have h1 := h.set1 (map_get hi) (.int .i64 y)
  have hjl : j < ((l.map iC).set i [Value.int .i64 y]).length := by
    rw [List.length_set, List.length_map]; exact (List.getElem?_eq_some_iff.1 hj).1
  have hr : ∃ u, ((l.map iC).set i [Value.int .i64 y])[j]? = some [u] := by
    by_cases e : i = j
    · subst e
      exact ⟨_, by rw [List.getElem?_set_self (by rw [List.length_map]; exact (List.getElem?_eq_some_iff.1 hj).1)]⟩
    · exact ⟨_, by rw [List.getElem?_set_ne e, List.getElem?_map, hj]; rfl⟩
  obtain ⟨u, hu⟩ := hr
  have h2 := h1.set1 hu (.int .i64 x)
  rw [swap_map hi hj] at h2
  exact h2

namespace Rev
theorem enters122 : ∀ args w, (callFunc 122 args).run Tryz.prog w = .ok (.enter 122 args) w := enters_of Tryz.func122 (by kernel_rfl) rfl
theorem enters123 : ∀ args w, (callFunc 123 args).run Tryz.prog w = .ok (.enter 123 args) w := enters_of Tryz.func123 (by kernel_rfl) rfl
theorem enters125 : ∀ args w, (callFunc 125 args).run Tryz.prog w = .ok (.enter 125 args) w := enters_of Tryz.func125 (by kernel_rfl) rfl
theorem enters127 : ∀ args w, (callFunc 127 args).run Tryz.prog w = .ok (.enter 127 args) w := enters_of Tryz.func127 (by kernel_rfl) rfl

theorem intLen (a : Option Addr) (n cap : Nat) (w : World) : Calls Tryz.prog 122 #[.slice a n cap] w fun e w' => e = .returned (.int .i64 n) ∧ Below w.heap.size w w' := by
  go_enter Tryz.func122, Tryz.ntmps122
  go_wp2
  go_ret
  exact ⟨rfl, Below.refl _ _⟩
set_option maxHeartbeats 2000000 in
theorem intLess (g n cap : Nat) (w : World) (G : Nat → Int) (hc : ∀ t, t < n → w.cell? ⟨g, t, none⟩ = some (.int .i64 (G t))) (i j : Nat) (hi : i < n) (hj : j < n) :
    Calls Tryz.prog 123 #[.slice (some ⟨g, 0, none⟩) n cap, .int .i64 i, .int .i64 j] w fun e w' => e = .returned (.bool (decide (G i < G j))) ∧ Below w.heap.size w w' := by
  have ci := hc i hi
  have cj := hc j hj
  go_enter Tryz.func123, Tryz.ntmps123
  go_wp2
  go_quiet (fail)
  go_wp2
  go_ret
  exact ⟨rfl, below_drewN (Below.refl _ _) _⟩
set_option maxHeartbeats 2000000 in
theorem intSwap (g n cap : Nat) (w : World) (x y : Int) (i j : Nat) (hi : i < n) (hj : j < n)
    (ci : w.cell? ⟨g, i, none⟩ = some (.int .i64 x)) (cj : w.cell? ⟨g, j, none⟩ = some (.int .i64 y)) (fi : w.frozen? ⟨g, i, none⟩ = false) (fj : w.frozen? ⟨g, j, none⟩ = false) :
    Calls Tryz.prog 125 #[.slice (some ⟨g, 0, none⟩) n cap, .int .i64 i, .int .i64 j] w fun e w' => e = .returned (.tuple #[]) ∧ ∃ q, w' = ((w.setCell ⟨g, i, none⟩ (.int .i64 y)).setCell ⟨g, j, none⟩ (.int .i64 x)).drewN q := by
  obtain ⟨v', hy'⟩ := cell?_setCell_some (w := w) (p := ⟨g, i, none⟩) (x := .int .i64 y) (q := ⟨g, j, none⟩) cj
  go_enter Tryz.func125, Tryz.ntmps125
  go_wp2
  go_region
  all_goals (try go_wp2)
  all_goals go_end0
  all_goals exact ⟨rfl, 1, rfl⟩

/-- how the methods of *sort.reverse are found: through the pointer -/
theorem get_iface {W : World} {pb : Nat} {v : Value} (hc : W.cell? ⟨pb, 0, none⟩ = some v) : Sem.run Tryz.prog ((Place.var ⟨pb, 0, none⟩).get 57) W = .ok v W := by
  show Sem.run Tryz.prog (loadVar 57 ⟨pb, 0, none⟩) W = _
  unfold loadVar
  rw [Sem.run_bind, show Sem.run Tryz.prog (isAgg 57) W = .ok false W from by kernel_rfl]
  simp [Result.andThen, run_load, hc]
theorem follow_rev (W : World) (pb : Nat) : Sem.run Tryz.prog (follow [⟨87, 0, true⟩] 85 (.val (.pointer (some ⟨pb, 0, none⟩)))) W = .ok (57, .var ⟨pb, 0, none⟩) W := by kernel_rfl
noncomputable def infoR : TypeInfo := (Tryz.prog.info? 85).get (by kernel_rfl)
theorem info_rev (W : World) : Sem.run Tryz.prog (typeInfo 85) W = .ok infoR W := by kernel_rfl
theorem find_len : (infoR.methods.find? (·.name == "Len")).map (fun m => (m.path, m.func)) = some (#[⟨87, 0, true⟩], none) := by kernel_rfl
theorem find_swap : (infoR.methods.find? (·.name == "Swap")).map (fun m => (m.path, m.func)) = some (#[⟨87, 0, true⟩], none) := by kernel_rfl
theorem find_less : (infoR.methods.find? (·.name == "Less")).map (fun m => (m.path, m.func)) = some (#[], some (127, false)) := by kernel_rfl
theorem method_via {W : World} {pb : Nat} {T : TypeId} {v : Value} {name : String} {k : Nat} {f : FuncId} {r : Value} (hf : (infoR.methods.find? (·.name == name)).map (fun m => (m.path, m.func)) = some (#[⟨87, 0, true⟩], none))
    (hc : W.cell? ⟨pb, 0, none⟩ = some (.iface T v)) (hm : Sem.run Tryz.prog (method k T v name) W = .ok (f, r) W) :
    Sem.run Tryz.prog (method (k + 1) 85 (.pointer (some ⟨pb, 0, none⟩)) name) W = .ok (f, r) W := by
  obtain ⟨m, h1, h2⟩ := Option.map_eq_some_iff.1 hf
  obtain ⟨h3, h4⟩ := Prod.mk.inj h2
  unfold method
  rw [Sem.run_bind, info_rev]
  simp only [Result.andThen, h1, h3, h4, Sem.run_bind]
  rw [follow_rev]
  simp only
  rw [get_iface hc]
  exact hm
theorem load_rev {W : World} {pb : Nat} {v : Value} (hc : W.cell? ⟨pb, 0, none⟩ = some v) : Sem.run Tryz.prog (loadVar 87 ⟨pb, 0, none⟩) W = .ok (.agg #[v]) W := by
  unfold loadVar
  rw [Sem.run_bind, show Sem.run Tryz.prog (isAgg 87) W = .ok true W from by kernel_rfl]
  simp only [Result.andThen, if_true, Sem.run_bind]
  rw [show Sem.run Tryz.prog (sizeOf 87) W = .ok 1 W from by kernel_rfl]
  simp only
  rw [show Sem.run Tryz.prog (loadCells ⟨pb, 0, none⟩ 1) W = .ok #[v] W from run_loadCells_list W ⟨pb, 0, none⟩ [v] (fun j u hu => by
    cases j with
    | zero => simp at hu; subst hu; exact hc
    | succ j => simp at hu)]
  rfl
theorem recv_less {W : World} {pb : Nat} {v : Value} (nm : String) (hc : W.cell? ⟨pb, 0, none⟩ = some v) : Sem.run Tryz.prog (receiverAt 85 (.val (.pointer (some ⟨pb, 0, none⟩))) false (some nm)) W = .ok (.agg #[v]) W := by
  unfold receiverAt
  rw [Sem.run_bind, show Sem.run Tryz.prog (underlying 85) W = .ok (.pointer 87) W from by kernel_rfl]
  simp only [Result.andThen, Sem.run_bind]
  rw [show Sem.run Tryz.prog ((Place.val (.pointer (some ⟨pb, 0, none⟩))).get 85) W = .ok (.pointer (some ⟨pb, 0, none⟩)) W from rfl]
  simp only [Result.andThen]
  rw [show Sem.run Tryz.prog (Builtin.ssaWrapNilChk_ #[85] 85 #[.pointer (some ⟨pb, 0, none⟩), strVal "", strVal nm]) W = .ok (.pointer (some ⟨pb, 0, none⟩)) W from rfl]
  simp only [Result.andThen]
  rw [show Sem.run Tryz.prog (asAddr (.pointer (some ⟨pb, 0, none⟩))) W = .ok ⟨pb, 0, none⟩ W from rfl]
  exact load_rev hc
theorem method_less {W : World} {pb : Nat} {v : Value} {k : Nat} (hc : W.cell? ⟨pb, 0, none⟩ = some v) :
    Sem.run Tryz.prog (method (k + 1) 85 (.pointer (some ⟨pb, 0, none⟩)) "Less") W = .ok (127, .agg #[v]) W := by
  obtain ⟨m, h1, h2⟩ := Option.map_eq_some_iff.1 find_less
  obtain ⟨h3, h4⟩ := Prod.mk.inj h2
  unfold method
  rw [Sem.run_bind, info_rev]
  simp only [Result.andThen, h1, h3, h4, Sem.run_bind]
  rw [show Sem.run Tryz.prog (follow [] 85 (Place.val (.pointer (some ⟨pb, 0, none⟩)))) W = .ok (85, Place.val (.pointer (some ⟨pb, 0, none⟩))) W from rfl]
  simp only [Array.isEmpty_empty, if_true]
  rw [recv_less _ hc]
  rfl
theorem find_int (W : World) (v : Value) : Sem.run Tryz.prog (method (252 - 1) 59 v "Len") W = .ok (122, v) W ∧ Sem.run Tryz.prog (method (252 - 1) 59 v "Swap") W = .ok (125, v) W ∧ Sem.run Tryz.prog (method 252 59 v "Less") W = .ok (123, v) W :=
  ⟨by kernel_rfl, by kernel_rfl, by kernel_rfl⟩

set_option maxHeartbeats 2000000 in
theorem revLess (g n cap : Nat) (w : World) (G : Nat → Int) (hg : g < w.heap.size) (hc : ∀ t, t < n → w.cell? ⟨g, t, none⟩ = some (.int .i64 (G t))) (i j : Nat) (hi : i < n) (hj : j < n) :
    Calls Tryz.prog 127 #[.agg #[.iface 59 (.slice (some ⟨g, 0, none⟩) n cap)], .int .i64 i, .int .i64 j] w fun e w' => e = .returned (.bool (decide (G j < G i))) ∧ Below w.heap.size w w' := by
  have hb : Below w.heap.size w (w.alloc (.cells #[.iface 59 (.slice (some ⟨g, 0, none⟩) n cap)] 87)) := (Below.refl _ _).alloc (Nat.le_refl _) _
  have CL := Lib.hid (intLess g n cap _ G (fun t ht => (hb.cell (p := ⟨g, t, none⟩) hg).trans (hc t ht)) j i hj hi)
  have mL := fun w => (find_int w (.slice (some ⟨g, 0, none⟩) n cap)).2.2
  have eL := enters123
  have HB := Lib.hid hb
  clear hc hb
  go_enter Tryz.func127, Tryz.ntmps127
  go_wp2_with (go_at_fn 123; refine CL.out.mono ?_; rintro e w1 ⟨rfl, hb1⟩)
  go_ret
  exact ⟨rfl, below_on HB.out hb1⟩

/-- the world of a sort: the row holds d, all else is as it was -/
structure At (W0 W : World) (b0 g n cap : Nat) (d : Array Int) : Prop where
  size : d.size = n
  own : Own W b0 3 1 (.slice (some ⟨g, 0, none⟩) n cap) (d.toList.map iC)
  grown : W0.grownBy W (some g)
variable {W0 W W' : World} {b0 g n cap pb : Nat} {d : Array Int}
theorem At.cells (h : At W0 W b0 g n cap d) {t : Nat} (ht : t < n) : W.cell? ⟨g, t, none⟩ = some (.int .i64 d[t]!) ∧ W.frozen? ⟨g, t, none⟩ = false := by
  have hd : d.toList[t]? = some d[t]! := by
    rw [Array.getElem?_toList, Array.getElem?_eq_getElem (by rw [h.size]; exact ht), getElem!_pos d t (by rw [h.size]; exact ht)]
  obtain ⟨h1, h2, _⟩ := h.own.at1 (map_get hd)
  exact ⟨h1, h2⟩
theorem At.same (h : At W0 W b0 g n cap d) (hg : g < W0.heap.size) (hb : Below W0.heap.size W W') : At W0 W' b0 g n cap d := by
  obtain ⟨h1, h2, h3, h4, cur, h5, h6, h7⟩ := h.own.laidAt
  exact ⟨h.size, Own.ofBlock h1 h.own.rows h2 ((hb.block g hg).trans h5) h3 h4 h6 h7, hb.os.trans h.grown.os, hb.tape.trans h.grown.tape, hb.output.trans h.grown.output, Nat.le_trans h.grown.size hb.size, fun k hk hne => (hb.block k hk).trans (h.grown.block k hk hne)⟩
theorem swp_list {d : Array Int} {i j : Nat} (hi : i < d.size) (hj : j < d.size) : (Sort.swp d i j).toList = swapAt d.toList i j := by
  unfold Sort.swp swapAt
  rw [Array.getElem?_toList, Array.getElem?_toList, Array.getElem?_eq_getElem hi, Array.getElem?_eq_getElem hj, getElem!_pos d i hi, getElem!_pos d j hj]
  simp
theorem rev_srt (hn : n ≤ 49) (hg : g < W0.heap.size) (hne : pb ≠ g) (hpb : W0.heap[pb]? = some (.cells #[.iface 59 (.slice (some ⟨g, 0, none⟩) n cap)] 87 (0, 0))) :
    Srt (fun W d => At W0 W b0 g n cap d) W0.heap.size 85 (.pointer (some ⟨pb, 0, none⟩)) (fun x y => decide (y < x)) n := by
  have hlt : pb < W0.heap.size := (Array.getElem?_eq_some_iff.1 hpb).1
  have hcell : ∀ {W d}, At W0 W b0 g n cap d → W.cell? ⟨pb, 0, none⟩ = some (.iface 59 (.slice (some ⟨g, 0, none⟩) n cap)) := fun {W d} h =>
    cell_blk ((h.grown.block pb hlt (fun e => hne (Option.some.inj e))).trans hpb) rfl
  refine ⟨fun h => h.size, fun h => h.grown.size, fun h hb => h.same hg hb, hn, fun {W d} i j h hi hj => ?_, fun {W d} i j h hi hj => ?_⟩
  · exact ⟨127, _, method_less (hcell h), enters127, revLess g n cap W (fun t => d[t]!) (Nat.lt_of_lt_of_le hg h.grown.size) (fun t ht => (h.cells ht).1) i j hi hj⟩
  · refine ⟨125, _, method_via find_swap (hcell h) (find_int W _).2.1, enters125, ?_⟩
    refine (intSwap g n cap W d[i]! d[j]! i j hi hj (h.cells hi).1 (h.cells hj).1 (h.cells hi).2 (h.cells hj).2).mono ?_
    rintro e w' ⟨rfl, q, rfl⟩
    have hdi : d.toList[i]? = some d[i]! := by rw [Array.getElem?_toList, Array.getElem?_eq_getElem (by rw [h.size]; exact hi), getElem!_pos d i (by rw [h.size]; exact hi)]
    have hdj : d.toList[j]? = some d[j]! := by rw [Array.getElem?_toList, Array.getElem?_eq_getElem (by rw [h.size]; exact hj), getElem!_pos d j (by rw [h.size]; exact hj)]
    have hO := (h.own.swap hdi hdj)
    rw [← swp_list (by rw [h.size]; exact hi) (by rw [h.size]; exact hj)] at hO
    have hgr : W.grownBy ((W.setCell ⟨g, i, none⟩ (.int .i64 d[j]!)).setCell ⟨g, j, none⟩ (.int .i64 d[i]!)) (some g) := (grown_cell W ⟨g, i, none⟩ _).trans (grown_cell _ ⟨g, j, none⟩ _)
    refine ⟨rfl, ⟨by rw [Sort.size_swp]; exact h.size, ?_, ?_⟩, fun b hb hb2 => ?_⟩
    · exact hO.below (below_drewN (Below.refl _ _) _)
    · exact ⟨hgr.os.trans h.grown.os, hgr.tape.trans h.grown.tape, hgr.output.trans h.grown.output, Nat.le_trans h.grown.size hgr.size, fun k hk hne => (hgr.block k (Nat.lt_of_lt_of_le hk h.grown.size) hne).trans (h.grown.block k hk hne)⟩
    · exact hgr.block b hb2 (fun e => by cases e; omega)
end Rev
end Go.Proofs.YtffgoekdjcempaaGreat
