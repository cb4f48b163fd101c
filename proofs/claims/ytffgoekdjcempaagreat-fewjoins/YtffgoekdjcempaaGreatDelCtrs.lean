/- The contracts of slices.IndexFunc and slices.DeleteFunc on slices of counters, with culref.Fewer's predicate; 'clear' on the rest. -/
import Derived.Test.YtffgoekdjcempaaGreatGr3
import Derived.Test.YtffgoekdjcempaaGreatOwnTwo
import Derived.Test.YtffgoekdjcempaaGreatSubSlice
import Derived.Deep.LoopGhost
import Derived.Lib.SliceRun
namespace Go.Proofs.YtffgoekdjcempaaGreat
open Go.ChangeShapes Go.WideShapes Go.ChangeAt Go.RowKit

/-- a store behind the rows of a slice of the call's own -/
theorem Own.beyond {w : World} {base : Nat} {e : TypeId} {k g n cap o : Nat} {R : List (List Value)} (h : Own w base e k (.slice (some ⟨g, 0, none⟩) n cap) R) (ho : R.length * k ≤ o) (x : Value) : Own (w.setCell ⟨g, o, none⟩ x) base e k (.slice (some ⟨g, 0, none⟩) n cap) R := by
  obtain ⟨⟨h1, h2⟩, h3⟩ := h
  refine ⟨⟨h1, ?_⟩, h3⟩
  rcases h2 with ⟨h0, _⟩ | ⟨g', cap', cur, h0, hg, hcur, hle, hm, hsz, htk⟩
  · cases h0
  · right
    simp only [Value.slice.injEq, Option.some.injEq, Addr.mk.injEq, and_true] at h0
    obtain ⟨rfl, rfl, rfl⟩ := h0
    refine ⟨g, cap, cur.setIfInBounds o x, rfl, hg, heap_setCell_same w g o _ _ x hcur, hle, hm, by rw [Array.size_setIfInBounds]; exact hsz, ?_⟩
    rw [Array.toList_setIfInBounds, List.take_set_of_le ho]
    exact htk
theorem Own.beyonds {base : Nat} {e : TypeId} {k g n cap : Nat} {R : List (List Value)} : ∀ (xs : List Value) (o : Nat) (w : World), Own w base e k (.slice (some ⟨g, 0, none⟩) n cap) R → R.length * k ≤ o → Own (w.setCells g o xs) base e k (.slice (some ⟨g, 0, none⟩) n cap) R
  | [], _, _, h, _ => h
  | x :: xs, o, w, h, ho => Own.beyonds xs (o + 1) _ (h.beyond ho x) (by omega)
theorem below_cells {B g : Nat} {w0 : World} (hB : B ≤ g) : ∀ (xs : List Value) (o : Nat) (w : World), Below B w0 w → Below B w0 (w.setCells g o xs)
  | [], _, _, h => h
  | x :: xs, o, w, h => below_cells hB xs (o + 1) _ (h.setCell (p := ⟨g, o, none⟩) hB x)
/-- a beginning of a slice of the call's own -/
theorem Own.less {w : World} {base : Nat} {e : TypeId} {k g n cap t : Nat} {R : List (List Value)} (h : Own w base e k (.slice (some ⟨g, 0, none⟩) n cap) R) (ht : t ≤ R.length) : Own w base e k (.slice (some ⟨g, 0, none⟩) t cap) (R.take t) := by
  obtain ⟨⟨h1, h2⟩, h3⟩ := h
  have h4 : ∀ r ∈ R.take t, r.length = k := fun r hr => h3 r (List.mem_of_mem_take hr)
  have hl : (R.take t).length = t := by rw [List.length_take]; omega
  refine ⟨⟨flatten_len h4, ?_⟩, h4⟩
  rcases h2 with ⟨h0, _⟩ | ⟨g', cap', cur, h0, hg, hcur, hle, hm, hsz, htk⟩
  · cases h0
  · right
    simp only [Value.slice.injEq, Option.some.injEq, Addr.mk.injEq, and_true] at h0
    obtain ⟨rfl, rfl, rfl⟩ := h0
    refine ⟨g, cap, cur, by rw [hl], hg, hcur, by rw [hl]; omega, hm, hsz, ?_⟩
    rw [hl]
    have hf : (R.take t).flatten = R.flatten.take (t * k) := by
      have e := List.take_append_drop t R
      have e2 : R.flatten = (R.take t).flatten ++ (R.drop t).flatten := by rw [← List.flatten_append, e]
      have hq : (R.take t).flatten.length = t * k := by rw [flatten_len h4, hl]
      rw [e2, List.take_append_of_le_length (by rw [hq]; exact Nat.le_refl _)]
      exact (List.take_of_length_le (by rw [hq]; exact Nat.le_refl _)).symm
    rw [hf, ← htk, List.take_take, Nat.min_eq_left (Nat.mul_le_mul_right k ht)]
/-- 'clear' of a slice of whatever elements -/
theorem run_clear_rows {P : Program} (w : World) (t e ty : TypeId) (z : Value) (ht : P.underlying t = some (.slice e)) (hv : ∀ w, (zeroValue e).run P w = .ok z w) (h1 : ∀ u ∈ z.cells, u.oneCell' = true) (h0 : 0 < z.cells.size) (b o n c : Nat) (hn : 0 < n)
    (hc : ∀ j, j < n * z.cells.size → (w.cell? ⟨b, o + j, none⟩).isSome = true) (hf : ∀ j, j < n * z.cells.size → w.frozen? ⟨b, o + j, none⟩ = false) :
    (Builtin.clear_ #[t] ty #[.slice (some ⟨b, o, none⟩) n c]).run P w = .ok (.tuple #[]) (w.setCells b o (Builtin.zeroCells z.cells n).toList) := by
  have hlen : (Builtin.zeroCells z.cells n).toList.length = n * z.cells.size := by simp [Builtin.zeroCells]
  have hst := run_storeCells_cells (P := P) b o (Builtin.zeroCells z.cells n).toList 0 w (by rw [hlen]; simpa using hc) (by rw [hlen]; simpa using hf) (by
    intro u hu
    simp only [Builtin.zeroCells, Array.toList_map, List.mem_map] at hu
    obtain ⟨i, _, rfl⟩ := hu
    have hi : i % z.cells.size < z.cells.size := Nat.mod_lt _ h0
    refine h1 _ ?_
    rw [getElem!_pos z.cells _ hi]
    exact Array.getElem_mem hi)
  simp only [Nat.add_zero] at hst
  obtain ⟨m, rfl⟩ : ∃ m, n = m + 1 := ⟨n - 1, by omega⟩
  simp [Builtin.clear_, run_underlying ht, hv, hst]
theorem Own.spots {w : World} {base : Nat} {e : TypeId} {k g n cap : Nat} {R : List (List Value)} (h : Own w base e k (.slice (some ⟨g, 0, none⟩) n cap) R) {o : Nat} (ho : o < R.length * k) : (w.cell? ⟨g, o, none⟩).isSome = true ∧ w.frozen? ⟨g, o, none⟩ = false := by
  rcases h.own.2 with ⟨h0, _⟩ | ⟨g', cap', cur, h0, hg, hcur, hle, hm, hsz, htk⟩
  · cases h0
  · simp only [Value.slice.injEq, Option.some.injEq, Addr.mk.injEq, and_true] at h0
    obtain ⟨rfl, rfl, rfl⟩ := h0
    have h1 : o < cur.size := by rw [hsz]; exact Nat.lt_of_lt_of_le ho (Nat.mul_le_mul_right k hle)
    refine ⟨?_, ?_⟩
    · simp only [World.cell?, hcur, Array.getElem?_eq_getElem h1]; rfl
    · simp [World.frozen?, hcur]
namespace Few
theorem zeroP (w : World) : (zeroValue 37).run Tryz.prog w = .ok (.agg #[.int .i64 0, .int .i64 0]) w := by kernel_rfl
theorem size_pairP (w : World) : (sizeOf 37).run Tryz.prog w = .ok 2 w := by kernel_rfl
theorem elem_pairP : Tryz.prog.elem 22 = 37 := by kernel_rfl
/-- does a counter hold something? -/
def posC (c : Int × Int) : Bool := decide (0 < c.2)
theorem filt_take {α : Type} (p : α → Bool) {L : List α} {t : Nat} {x : α} (h : L[t]? = some x) : (L.take (t + 1)).filter p = (L.take t).filter p ++ (if p x then [x] else []) := by
  rw [List.take_add_one, h, Option.toList_some, List.filter_append]
  cases hp : p x <;> simp [hp]

set_option maxRecDepth 100000 in
set_option maxHeartbeats 1000000 in
theorem setClo_any (p : Int × Int) (w : World) : Calls Tryz.prog 29 #[.agg #[.int .i64 p.1, .int .i64 p.2]] w fun e w' => e = .returned (.bool (!posC p)) ∧ Below w.heap.size w w' := by
  have hb : Below w.heap.size w (w.alloc (.cells #[.int .i64 p.1, .int .i64 p.2] 37)) := (Below.refl _ _).alloc (Nat.le_refl _) _
  have HB := Lib.hid hb
  clear hb
  obtain ⟨pk, pv⟩ := p
  have e : (!posC (pk, pv)) = decide (pv ≤ 0) := by
    unfold posC
    by_cases h : 0 < pv
    · rw [decide_eq_true h, decide_eq_false (by omega)]; rfl
    · rw [decide_eq_false h, decide_eq_true (by omega)]; rfl
  rw [e]
  clear e
  go_enter Tryz.func29, Tryz.ntmps29
  go_wp2
  go_ret
  exact ⟨rfl, HB.out⟩

set_option maxRecDepth 100000 in
set_option maxHeartbeats 1000000 in
theorem indexCtrs_any (a : Option Addr) (len cap : Nat) (L : List (Int × Int)) (w : World) (h : Tab w a len cap 2 (L.map iiC)) :
    Calls Tryz.prog 46 #[.slice a len cap, .func (.func 29) #[] #[]] w fun e w' => ∃ i : Int, e = .returned (.int .i64 i) ∧ ((i = -1 ∧ L.filter posC = L) ∨ ∃ n : Nat, i = n ∧ n < len ∧ (L.take (n + 1)).filter posC = L.take n) ∧ Below w.heap.size w w' := by
  have hn := h.hmax
  have hle := h.hle
  unfold maxLen at hn
  have hl := h.hlen
  rw [List.length_map] at hl
  have HL := Lib.hid hl
  have HT := Lib.hid h
  clear h hl
  go_enter Tryz.func46, Tryz.ntmps46
  go_wp2_with fail
  go_loopg [8] len (fun g i wr => ∃ t : Nat, t + g = len ∧ i = .int .i64 t ∧ Hid ((L.take t).filter posC = L.take t) ∧ Hid (Below w.heap.size w wr))
  case atStart => exact ⟨0, by omega, rfl, Lib.hid rfl, Lib.hid (Below.refl _ _)⟩
  case round =>
    obtain ⟨t, ht0, rfl, HF, HB⟩ := hrel
    have HJ := Lib.hid ht0
    have ht : t ≤ len := by omega
    clear ht0
    by_cases hlt : t < len
    · obtain ⟨⟨pk, pv⟩, hx⟩ : ∃ x, L[t]? = some x := ⟨_, List.getElem?_eq_getElem (by rw [HL.out]; exact hlt)⟩
      obtain ⟨b1, o1, ha, hbs, c0, c1⟩ := HT.out.two HB.out (map_get hx)
      have HC := Lib.hid (setClo_any (pk, pv) wr)
      have HN : Hid ((L.take (t + 1)).filter posC = L.take t ++ (if posC (pk, pv) then [(pk, pv)] else [])) := Lib.hid (by
        rw [filt_take posC hx, HF.out])
      have HTK : Hid (L.take (t + 1) = L.take t ++ [(pk, pv)]) := Lib.hid (by rw [List.take_add_one, hx]; rfl)
      subst ha
      clear hx
      cases hp : posC (pk, pv)
      · rw [hp] at HC HN
        clear hp
        go_wp2_with fail
        refine HC.out.mono ?_
        rintro e w2 ⟨rfl, hb2⟩
        have HB2 := Lib.hid (below_on HB.out hb2)
        clear hb2 HC
        go_wp2
        go_ret
        exact ⟨_, rfl, Or.inr ⟨t, rfl, hlt, by rw [HN.out]; simp⟩, HB2.out⟩
      · rw [hp] at HC HN
        clear hp
        go_wp2_with fail
        refine HC.out.mono ?_
        rintro e w2 ⟨rfl, hb2⟩
        have HB2 := Lib.hid (below_on HB.out hb2)
        clear hb2 HC
        go_wp2_with fail
        go_roundg (len - (t + 1))
        case measure => have := HJ.out; omega
        case rel => exact ⟨t + 1, by omega, by go_num, Lib.hid (by rw [HN.out, HTK.out]; rfl), HB2⟩
    · obtain rfl : t = len := by omega
      go_wp2
      go_ret
      refine ⟨_, rfl, Or.inl ⟨rfl, ?_⟩, HB.out⟩
      have h := HF.out
      rw [List.take_of_length_le (by rw [HL.out]; exact Nat.le_refl _)] at h
      exact h

theorem set_rows {M : List (Int × Int)} {i : Nat} {p q : Int × Int} (hq : M[i]? = some q) : ((M.map iiC).set i ((iiC q).set 0 (.int .i64 p.1))).set i (((iiC q).set 0 (.int .i64 p.1)).set 1 (.int .i64 p.2)) = (M.set i p).map iiC := by
  rw [List.set_set, List.map_set]
  rfl

set_option maxRecDepth 100000 in
set_option maxHeartbeats 2000000 in
theorem deleteCtrs_own {base : Nat} {v : Value} {L : List (Int × Int)} {w : World} (h : Own w base 37 2 v (L.map iiC)) (hb : base ≤ w.heap.size) :
    Calls Tryz.prog 28 #[v, .func (.func 29) #[] #[]] w fun e w' => ∃ v', e = .returned v' ∧ Own w' base 37 2 v' ((L.filter posC).map iiC) ∧ Below base w w' := by
  have hlt0 := h.own.lt
  obtain ⟨a, cap, rfl, hT⟩ := h.tab
  rw [List.length_map] at h hT hlt0 ⊢
  obtain ⟨len, hlen⟩ : ∃ n, L.length = n := ⟨_, rfl⟩
  rw [hlen] at h hT hlt0 ⊢
  have hle := hT.hle
  have hm := hT.hmax
  unfold maxLen at hm
  have C := Lib.hid (indexCtrs_any a len cap L w hT)
  have HO := Lib.hid h
  have HL := Lib.hid hlen
  have HG : Hid (0 < len → ∃ g, a = some ⟨g, 0, none⟩ ∧ base ≤ g) := Lib.hid (fun hp => by
    rcases h.own.2 with ⟨h0, h1⟩ | ⟨g, cap', cur, h0, hg, _⟩
    · rw [List.length_map, hlen] at h1; omega
    · simp only [Value.slice.injEq] at h0
      exact ⟨g, h0.1, hg⟩)
  clear h hT hlt0 hlen
  go_enter Tryz.func28, Tryz.ntmps28
  go_wp2_with fail
  refine C.out.mono ?_
  rintro e w1 ⟨i, rfl, hi, hb1⟩
  have HB1 := Lib.hid hb1
  have HO1 := Lib.hid (HO.out.below hb1)
  have hbs : base ≤ w1.heap.size := Nat.le_trans hb hb1.size
  have HBB : Hid (Below base w w1) := Lib.hid (hb1.mono hb)
  clear hb1 C HO
  rcases hi with ⟨rfl, hf⟩ | ⟨n0, rfl, hn0, hf⟩
  · clear HG
    go_wp2
    go_ret
    exact ⟨_, rfl, by rw [hf]; exact HO1.out, HBB.out⟩
  · obtain ⟨g, rfl, hg⟩ := HG.out (by omega)
    have HF0 := Lib.hid hf
    have t1 : ((n0 : Int) == -1) = false := by rw [beq_eq_false_iff_ne]; omega
    have HZ0 : Hid (g < w1.heap.size) := Lib.hid (HO1.out.own.lt g rfl).2
    clear hf HG HB1
    go_wp2_with fail
    clear t1
    go_loopg [5, 6] (len - (n0 + 1)) (fun gg s t wr => ∃ (i j : Nat) (M : List (Int × Int)), j + gg = len ∧ s = .int .i64 i ∧ t = .int .i64 j ∧ i < j ∧ Hid (M.length = len) ∧ Hid (M.take i = (L.take j).filter posC) ∧ Hid (M.drop j = L.drop j) ∧ Hid (Own wr base 37 2 (.slice (some ⟨g, 0, none⟩) len cap) (M.map iiC)) ∧ Hid (Below base w wr) ∧ Hid (g < wr.heap.size))
    case atStart => exact ⟨n0, n0 + 1, L, by omega, rfl, by go_num, by omega, HL, Lib.hid HF0.out.symm, Lib.hid rfl, HO1, HBB, HZ0⟩
    case round =>
      clear HO1 HBB HZ0 HF0 hbs
      obtain ⟨i, j, M, hj0, rfl, rfl, hij, HML, HF, HDR, HO, HB, HZ⟩ := hrel
      have HJ := Lib.hid hj0
      have hj : j ≤ len := by omega
      clear hj0
      by_cases hlt : j < len
      · obtain ⟨⟨pk, pv⟩, hx⟩ : ∃ x, M[j]? = some x := ⟨_, List.getElem?_eq_getElem (by rw [HML.out]; exact hlt)⟩
        obtain ⟨⟨qk, qv⟩, hq⟩ : ∃ x, M[i]? = some x := ⟨_, List.getElem?_eq_getElem (by rw [HML.out]; omega)⟩
        have hxL : L[j]? = some (pk, pv) := by
          have h1 : (M.drop j)[0]? = some (pk, pv) := by rw [List.getElem?_drop, Nat.add_zero]; exact hx
          rw [HDR.out, List.getElem?_drop, Nat.add_zero] at h1
          exact h1
        obtain ⟨c0, _, _, _⟩ := HO.out.at_ (i := j) (map_get hx) (j := 0) rfl
        obtain ⟨c1, _, _, _⟩ := HO.out.at_ (i := j) (map_get hx) (j := 1) rfl
        rw [Nat.add_zero] at c0
        have hX := (MapKept.heap_alloc wr (.cells #[.int .i64 pk, .int .i64 pv] 37)).1
        have d0 := cell_blk (i := 0) hX rfl
        have d1 := cell_blk (i := 1) hX rfl
        have HX := Lib.hid hX
        have HC := Lib.hid (setClo_any (pk, pv) (wr.alloc (.cells #[.int .i64 pk, .int .i64 pv] 37)))
        have HNF : Hid ((L.take (j + 1)).filter posC = (L.take j).filter posC ++ (if posC (pk, pv) then [(pk, pv)] else [])) := Lib.hid (filt_take posC hxL)
        have HND : Hid (M.drop (j + 1) = L.drop (j + 1)) := Lib.hid (by
          have e : ∀ l : List (Int × Int), l.drop (j + 1) = (l.drop j).drop 1 := fun l => by rw [List.drop_drop]
          rw [e, e, HDR.out])
        have HQ := Lib.hid hq
        have HZZ := HZ.out
        clear hx hxL hX hq
        cases hp : posC (pk, pv)
        · rw [hp] at HC HNF
          clear hp
          go_wp2_with fail
          refine HC.out.mono ?_
          rintro e w2 ⟨rfl, hb2⟩
          have HO2 := Lib.hid ((HO.out.alloc (.cells #[.int .i64 pk, .int .i64 pv] 37)).below hb2)
          have HB2 : Hid (Below base w w2) := Lib.hid ((HB.out.alloc (by omega) (.cells #[.int .i64 pk, .int .i64 pv] 37)).trans (hb2.mono (by simp; omega)))
          have HZ2 : Hid (g < w2.heap.size) := Lib.hid (by have := hb2.size; simp at this; omega)
          clear hb2 HC HO HB HZ HX c0 c1 d0 d1
          go_wp2_with fail
          go_roundg (len - (j + 1))
          case measure => have := HJ.out; omega
          case rel => exact ⟨i, j + 1, M, by omega, rfl, by go_num, by omega, HML, Lib.hid (by rw [HNF.out, HF.out]; simp), HND, HO2, HB2, HZ2⟩
        · rw [hp] at HC HNF
          clear hp
          go_wp2_with fail
          refine HC.out.mono ?_
          rintro e w2 ⟨rfl, hb2⟩
          have hO2 := (HO.out.alloc (.cells #[.int .i64 pk, .int .i64 pv] 37)).below hb2
          have hB2 : Below base w w2 := (HB.out.alloc (by omega) (.cells #[.int .i64 pk, .int .i64 pv] 37)).trans (hb2.mono (by simp; omega))
          have hX2 : w2.heap[wr.heap.size]? = some (.cells #[.int .i64 pk, .int .i64 pv] 37 (0, 0)) := (hb2.block _ (Array.getElem?_eq_some_iff.1 HX.out).1).trans HX.out
          have hz2 : g < w2.heap.size := by have := hb2.size; simp at this; omega
          clear c0 c1 d0 d1
          have d0 := cell_blk (i := 0) hX2 rfl
          have d1 := cell_blk (i := 1) hX2 rfl
          obtain ⟨c0, f0, _, _⟩ := hO2.at_ (i := i) (map_get HQ.out) (j := 0) rfl
          obtain ⟨c1, f1, _, _⟩ := hO2.at_ (i := i) (map_get HQ.out) (j := 1) rfl
          have s1 := hO2.set_ (i := i) (map_get HQ.out) (j := 0) (by decide) (.int .i64 pk)
          have hil : i < (M.map iiC).length := by rw [List.length_map, HML.out]; omega
          have s2 := s1.set_ (i := i) (r := (iiC (qk, qv)).set 0 (.int .i64 pk)) (by rw [List.getElem?_set_self hil]) (j := 1) (by decide) (.int .i64 pv)
          rw [Nat.add_zero] at c0 f0 s2
          rw [set_rows (p := (pk, pv)) HQ.out] at s2
          have HS := Lib.hid s2
          have HB3 := Lib.hid ((hB2.setCell (p := ⟨g, i * 2, none⟩) hg (.int .i64 pk)).setCell (p := ⟨g, i * 2 + 1, none⟩) hg (.int .i64 pv))
          have HZ3 : Hid (g < ((w2.setCell ⟨g, i * 2, none⟩ (.int .i64 pk)).setCell ⟨g, i * 2 + 1, none⟩ (.int .i64 pv)).heap.size) := Lib.hid (by simp [World.setCell]; exact hz2)
          have hgl : g ≠ wr.heap.size := by have := HZ.out; omega
          clear hb2 HC HO HB HZ HX hO2 hB2 hX2 s1 s2 hil
          go_wp2_with fail
          go_roundg (len - (j + 1))
          case measure => have := HJ.out; omega
          case rel =>
            refine ⟨i + 1, j + 1, M.set i (pk, pv), by omega, by go_num, by go_num, by omega, Lib.hid (by rw [List.length_set]; exact HML.out), Lib.hid ?_, Lib.hid ?_, HS, HB3, HZ3⟩
            · rw [HNF.out, ← HF.out, List.take_add_one, List.getElem?_set_self (by rw [HML.out]; omega), List.take_set_of_le (Nat.le_refl i)]
              rfl
            · rw [List.drop_set_of_lt (by omega)]
              exact HND.out
      · obtain rfl : j = len := by omega
        have hlen : ((M.map iiC).length) = j := by rw [List.length_map, HML.out]
        have hfa : fromA (some ⟨g, 0, none⟩) cap i 2 = some ⟨g, i * 2, none⟩ := by
          unfold fromA
          rw [if_neg (by omega)]
          simp [addr_add]
        have rU1 := run_from 22 37 2 Tryz.underlying22 elem_pairP size_pairP (some ⟨g, 0, none⟩) j cap i (by omega)
        rw [hfa] at rU1
        have rU2 := run_upto 22 37 2 Tryz.underlying22 elem_pairP size_pairP (some ⟨g, 0, none⟩) j cap i (by omega)
        have hcl := fun ty => run_clear_rows (P := Tryz.prog) wr 22 37 ty (.agg #[.int .i64 0, .int .i64 0]) Tryz.underlying22 zeroP (by decide) (by decide) g (i * 2) (j - i) (cap - i) (by omega)
          (fun t ht => (HO.out.spots (o := i * 2 + t) (by rw [hlen]; have e : (Value.agg #[.int .i64 0, .int .i64 0]).cells.size = 2 := rfl; rw [e] at ht; omega)).1)
          (fun t ht => (HO.out.spots (o := i * 2 + t) (by rw [hlen]; have e : (Value.agg #[.int .i64 0, .int .i64 0]).cells.size = 2 := rfl; rw [e] at ht; omega)).2)
        have hE := (HO.out.less (t := i) (by omega)).beyonds (Builtin.zeroCells (Value.agg #[.int .i64 0, .int .i64 0]).cells (j - i)).toList (i * 2) wr (by rw [List.length_take, hlen]; omega)
        have hB := below_cells hg (Builtin.zeroCells (Value.agg #[.int .i64 0, .int .i64 0]).cells (j - i)).toList (i * 2) wr HB.out
        rw [← List.map_take, HF.out, List.take_of_length_le (by rw [HL.out]; exact Nat.le_refl _)] at hE
        generalize wr.setCells g (i * 2) (Builtin.zeroCells (Value.agg #[.int .i64 0, .int .i64 0]).cells (j - i)).toList = W9 at *
        have HE := Lib.hid (And.intro hE hB)
        clear hE hB hfa hlen
        go_wp2
        go_ret
        exact ⟨_, rfl, HE.out.1, HE.out.2⟩
end Few
end Go.Proofs.YtffgoekdjcempaaGreat
