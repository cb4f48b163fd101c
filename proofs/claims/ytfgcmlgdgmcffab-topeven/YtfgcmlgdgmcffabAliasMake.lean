/- The contract of the program's alias.Make. -/
import Derived.Test.YtfgcmlgdgmcffabAliasFill
import Derived.Test.YtfgcmlgdgmcffabAliasSum
namespace Go.Proofs.Ytfgcmlgdgmcffab
open Go.ChangeShapes Go.WideShapes Go.ChangeAt Go.RowKit
open Walker

set_option maxRecDepth 100000 in
set_option maxHeartbeats 1000000 in
theorem make_bad (a : Option Addr) (len cap : Nat) (l : List Int) (w : World) (h : Tab w a len cap 1 (l.map iC)) (hE : weightsE l ≠ 0) :
    Calls Try.prog 39 #[.slice a len cap] w fun e w' => e = .returned (.tuple #[.agg #[.int .i64 0, .slice none 0 0, .slice none 0 0], .int .i64 (weightsE l)]) ∧ Below w.heap.size w w' := by
  have hb : Below w.heap.size w (w.alloc (.cells #[.int .i64 0, .slice none 0 0, .slice none 0 0] 72)) := (Below.refl _ _).alloc (Nat.le_refl _) _
  have C := aliasSum_any a len cap l _ (h.below hb)
  rw [if_neg hE] at C
  have t : (weightsE l != 0) = true := by simpa using hE
  generalize weightsE l = E at *
  have C := Lib.hid C
  have k2 : (w.alloc (.cells #[.int .i64 0, .slice none 0 0, .slice none 0 0] 72)).heap[w.heap.size]? = some (.cells #[.int .i64 0, .slice none 0 0, .slice none 0 0] 72 (0, 0)) := (MapKept.heap_alloc w _).1
  have Z := Lib.hid (whole_cells (whole_set (A' := 0) (u' := .slice none 0 0) (v' := .slice none 0 0) k2))
  have HB := Lib.hid (((hb.setCell (p := ⟨w.heap.size, 0, none⟩) (Nat.le_refl _) (.int .i64 0)).setCell (p := ⟨w.heap.size, 1, none⟩) (Nat.le_refl _) (.slice none 0 0)).setCell (p := ⟨w.heap.size, 2, none⟩) (Nat.le_refl _) (.slice none 0 0))
  obtain ⟨⟨e0, e1, e2⟩, r0, r1, r2⟩ := whole_cells k2
  clear h hE hb k2
  go_enter Try.func39, Try.ntmps39
  go_wp2_with fail
  refine C.out.mono ?_
  rintro e w1 ⟨rfl, rfl⟩
  generalize hW1 : w.alloc (.cells #[.int .i64 0, .slice none 0 0, .slice none 0 0] 72) = W1 at *
  clear hW1 C
  go_wp2
  generalize (((W1.setCell { block := w.heap.size, off := 0 } (Value.int IntKind.i64 0)).setCell { block := w.heap.size, off := 1 } (Value.slice none 0 0)).setCell { block := w.heap.size, off := 2 } (Value.slice none 0 0)) = w3 at *
  clear e0 e1 e2 r0 r1 r2
  obtain ⟨⟨z0, z1, z2⟩, _, _, _⟩ := Z.out
  try simp only [Exit.inBlock, Exit.then]
  refine bodyPost_ret (by simp [results, Try.results39, go_sem, z0, z1, z2, Result.andThen]; try rfl) rfl ?_
  exact ⟨rfl, HB.out⟩
/-- the five slices at the beginning of the loop -/
theorem fil_start {w0 w1 w3 : World} {n O R : Nat} {A : Int} {u v t : List Int} (hM : Many w1 w0.heap.size 3 [(.slice (some ⟨O, 0, none⟩) n n, u), (.slice (some ⟨R, 0, none⟩) n n, v)]) (hb : Below w0.heap.size w0 w1)
    (hg : (w1.alloc (.cells #[.int .i64 A, .slice (some ⟨O, 0, none⟩) n n, .slice (some ⟨R, 0, none⟩) n n] 72)).grownBy w3 none)
    (hO : Own w3 w0.heap.size 3 1 (.slice (some ⟨w1.heap.size + 1, 0, none⟩) n n) (t.map iC)) :
    Fil w0 w3 w0.heap.size w1.heap.size n O R (w1.heap.size + 1) A (.slice none 0 0) (.slice none 0 0) u v t [] [] := by
  have lO : O < w1.heap.size := ((hM.own _ (List.mem_cons_self ..)).own.lt O rfl).2
  have lR : R < w1.heap.size := ((hM.own _ (List.mem_cons_of_mem _ (List.mem_cons_self ..))).own.lt R rfl).2
  have aOR := (List.pairwise_cons.1 hM.apart).1 _ (List.mem_cons_self ..)
  have kp : ∀ p ∈ [((Value.slice (some ⟨O, 0, none⟩) n n), u), (.slice (some ⟨R, 0, none⟩) n n, v)], Own w3 w0.heap.size 3 1 p.1 (p.2.map iC) := fun p hp => by
    refine ((hM.own p hp).alloc _).keptBy hg ?_
    cases hx : p.1.ownBlock with
    | none => exact Or.inl rfl
    | some _ => exact Or.inr (by simp)
  refine ⟨⟨fun p hp => ?_, ?_⟩, ?_, by omega, by omega, by omega, by simp [Value.ownBlock], by simp [Value.ownBlock], (hb.alloc hb.size _).grown hg (Nat.le_trans hb.size (by simp)) (fun k hk => by cases hk), Nat.le_trans hb.size (Nat.le_trans (by simp) hg.size)⟩
  · rcases List.mem_cons.1 hp with rfl | hp
    · exact kp _ (List.mem_cons_self ..)
    rcases List.mem_cons.1 hp with rfl | hp
    · exact kp _ (List.mem_cons_of_mem _ (List.mem_cons_self ..))
    rcases List.mem_cons.1 hp with rfl | hp
    · exact hO
    rcases List.mem_cons.1 hp with rfl | hp
    · exact Own.nil _ _ _ _
    rcases List.mem_cons.1 hp with rfl | hp
    · exact Own.nil _ _ _ _
    · cases hp
  · have nn : ∀ x : Value, Apart x (.slice none 0 0) := fun x => (apart_nil x).symm
    have tO : Apart (.slice (some ⟨O, 0, none⟩) n n) (.slice (some ⟨w1.heap.size + 1, 0, none⟩) n n) := by
      intro g h1 h2
      simp [Value.ownBlock] at h1 h2
      omega
    have tR : Apart (.slice (some ⟨R, 0, none⟩) n n) (.slice (some ⟨w1.heap.size + 1, 0, none⟩) n n) := by
      intro g h1 h2
      simp [Value.ownBlock] at h1 h2
      omega
    refine List.Pairwise.cons ?_ (List.Pairwise.cons ?_ (List.Pairwise.cons ?_ (List.Pairwise.cons ?_ (List.Pairwise.cons ?_ List.Pairwise.nil))))
    · intro q hq
      simp only [List.mem_cons, List.not_mem_nil, or_false] at hq
      rcases hq with rfl | rfl | rfl | rfl
      · exact aOR
      · exact tO
      · exact nn _
      · exact nn _
    · intro q hq
      simp only [List.mem_cons, List.not_mem_nil, or_false] at hq
      rcases hq with rfl | rfl | rfl
      · exact tR
      · exact nn _
      · exact nn _
    · intro q hq
      simp only [List.mem_cons, List.not_mem_nil, or_false] at hq
      rcases hq with rfl | rfl
      · exact nn _
      · exact nn _
    · intro q hq
      simp only [List.mem_cons, List.not_mem_nil, or_false] at hq
      subst hq
      exact nn _
    · intro q hq
      cases hq
  · rw [hg.block _ (by simp) (by simp)]
    exact (MapKept.heap_alloc _ _).1
def pLow (l : List Int) (n : Nat) (A : Int) (i : Nat) : Bool := decide (g l i * (n : Int) < A)
theorem range_low {l : List Int} {n k : Nat} {A : Int} (h : pLow l n A k = true) : (List.range (k + 1)).filter (pLow l n A) = (List.range k).filter (pLow l n A) ++ [k] ∧ (List.range (k + 1)).filter (fun i => !pLow l n A i) = (List.range k).filter (fun i => !pLow l n A i) := by
  rw [List.range_succ, List.filter_append, List.filter_append]
  simp [h]
theorem range_high {l : List Int} {n k : Nat} {A : Int} (h : pLow l n A k = false) : (List.range (k + 1)).filter (pLow l n A) = (List.range k).filter (pLow l n A) ∧ (List.range (k + 1)).filter (fun i => !pLow l n A i) = (List.range k).filter (fun i => !pLow l n A i) ++ [k] := by
  rw [List.range_succ, List.filter_append, List.filter_append]
  simp [h]

set_option maxRecDepth 100000 in
set_option maxHeartbeats 2000000 in
theorem make_ok (a : Option Addr) (len cap : Nat) (l : List Int) (w : World) (h : Tab w a len cap 1 (l.map iC)) (hE : weightsE l = 0) :
    Calls Try.prog 39 #[.slice a len cap] w fun e w' => ∃ O R : Nat, e = .returned (.tuple #[.agg #[.int .i64 l.sum, .slice (some ⟨O, 0, none⟩) len len, .slice (some ⟨R, 0, none⟩) len len], .int .i64 0]) ∧
      Many w' w.heap.size 3 [(.slice (some ⟨O, 0, none⟩) len len, (table l).own), (.slice (some ⟨R, 0, none⟩) len len, (table l).rest)] ∧ Below w.heap.size w w' := by
  obtain ⟨z1, z2, z3⟩ := weightsE_zero hE
  have hl := h.hlen
  rw [List.length_map] at hl
  obtain ⟨i0, hi, hz0, hz1, hz2⟩ := info_parts info_int
  have HI := Lib.hid (And.intro hi (And.intro hz0 (And.intro hz1 hz2)))
  have hb : Below w.heap.size w (w.alloc (.cells #[.int .i64 0, .slice none 0 0, .slice none 0 0] 72)) := (Below.refl _ _).alloc (Nat.le_refl _) _
  have C := aliasSum_any a len cap l _ (h.below hb)
  rw [hE, if_pos rfl] at C
  have C := Lib.hid C
  have hn40 : len ≤ 40 := by omega
  have bA := sum_bd z2
  rw [hl] at bA
  have HINV := Lib.hid (start_inv z2 z1)
  have HT := Lib.hid (h.below hb)
  have HB := Lib.hid hb
  have k2 : (w.alloc (.cells #[.int .i64 0, .slice none 0 0, .slice none 0 0] 72)).heap[w.heap.size]? = some (.cells #[.int .i64 0, .slice none 0 0, .slice none 0 0] 72 (0, 0)) := (MapKept.heap_alloc w _).1
  have HK := Lib.hid k2
  have hsz : (w.alloc (.cells #[.int .i64 0, .slice none 0 0, .slice none 0 0] 72)).heap.size = w.heap.size + 1 := by simp
  have HSZ := Lib.hid hsz
  have HZ2 := Lib.hid z2
  have HL := Lib.hid hl
  have bA1 := bA.1
  have bA2 : l.sum ≤ 40000000000000 := by omega
  obtain ⟨A, hA⟩ : ∃ A, l.sum = A := ⟨_, rfl⟩
  have HA := Lib.hid hA
  rw [hA] at C bA1 bA2 ⊢
  have CW := Lib.hid (fun W => whole_any A len hn40 W)
  clear h hE hb k2 hsz bA hi hz0 hz1 hz2 z1 z2 z3 hl hA
  go_enter Try.func39, Try.ntmps39
  go_wp2_with fail
  refine C.out.mono ?_
  rintro e W0 ⟨rfl, hW0⟩
  rw [hW0] at HT HB HK HSZ
  clear hW0 C
  go_wp2_with fail
  refine (CW.out _).mono ?_
  rintro e w1 ⟨O, R, rfl, hM1, hb1⟩
  have HM1 := Lib.hid (And.intro hM1 hb1)
  clear CW hM1 hb1
  go_wp2_with (at_make; refine wpList_make_full _ rfl _ _ 26 rfl W0.heap.size 3 i0 (.int .i64 0) 1 Try.underlying26 HI.out.1 HI.out.2.1 HI.out.2.2.1 _ _ _ _ len rfl rfl rfl rfl (by rw [HI.out.2.2.2]; omega) (by unfold maxLen; omega) (Nat.le_trans HM1.out.2.size (by simp)) ?_; intro w3 hO3 hg3)
  have hs1 : (w1.alloc (.cells #[.int .i64 A, .slice (some ⟨O, 0, none⟩) len len, .slice (some ⟨R, 0, none⟩) len len] 72)).heap.size = w1.heap.size + 1 := by simp
  rw [hs1] at hO3
  have HF0 := Lib.hid (fil_start HM1.out.1 HM1.out.2 hg3 (t := List.replicate len 0) (Own.full hO3 (made_ints len)))
  have hPH : w.heap.size + 1 ≤ w1.heap.size := by have := HM1.out.2.size; rw [HSZ.out] at this; exact this
  generalize w1.heap.size + 1 = T at *
  generalize w1.heap.size = P at *
  clear hs1 hO3 hg3 HM1 HI
  go_loopg [8, 9, 30] len (fun g vl vh i wr => ∃ k : Nat, k + g = len ∧ i = .int .i64 k ∧ Hid (Fil W0 wr W0.heap.size P len O R T A vl vh (List.replicate len A) (Digit.rowOf len) ((l.take k).map (fun x => x * (len : Int)) ++ List.replicate (len - k) 0) (iN ((List.range k).filter (pLow l len A))) (iN ((List.range k).filter (fun i => !pLow l len A i)))))
  case atStart => exact ⟨0, by omega, rfl, HF0⟩
  case round =>
    clear HF0
    obtain ⟨k, hk0, rfl, HF⟩ := hrel
    have HJ := Lib.hid hk0
    have hk : k ≤ len := by omega
    clear hk0
    by_cases hlt : k < len
    · obtain ⟨x, hx⟩ : ∃ x, l[k]? = some x := ⟨_, List.getElem?_eq_getElem (by rw [HL.out]; exact hlt)⟩
      have bx := HZ2.out x (List.mem_of_getElem? hx)
      have by1 : 0 ≤ x * (len : Int) := Int.mul_nonneg bx.1 (by omega)
      have by2 : x * (len : Int) ≤ 40000000000000 := by
        have h2 : x * (len : Int) ≤ 1000000000000 * (len : Int) := Int.mul_le_mul_of_nonneg_right bx.2 (by omega)
        omega
      have hgx : g l k = x := g_some hx
      have hlk : ((l.take k).map (fun x => x * (len : Int))).length = k := by rw [List.length_map, List.length_take, HL.out]; omega
      have g2 := get_pad hlk hlt
      have etk : (l.take k).map (fun x => x * (len : Int)) ++ [x * (len : Int)] = (l.take (k + 1)).map (fun x => x * (len : Int)) := by
        rw [List.take_add_one, hx, List.map_append]; rfl
      obtain ⟨cT, fT, _, _⟩ := HF.out.oLeft.at1 (map_get g2)
      have F1 := HF.out.setT g2 (x * (len : Int))
      have g3 : (((l.take k).map (fun x => x * (len : Int)) ++ List.replicate (len - k) 0).set k (x * (len : Int)))[k]? = some (x * (len : Int)) := List.getElem?_set_self (List.getElem?_eq_some_iff.1 g2).1
      obtain ⟨cT1, _, _, _⟩ := F1.oLeft.at1 (map_get g3)
      rw [put_pad hlk hlt, etk] at F1
      obtain ⟨b1, o1, ha, hbs, cx⟩ := HT.out.one HF.out.bel (map_get hx)
      have HF1 := Lib.hid F1
      have hll : ((iN ((List.range k).filter (pLow l len A))).map iC).length ≤ 40 := by rw [List.length_map, iN_len]; have := List.length_filter_le (pLow l len A) (List.range k); rw [List.length_range] at this; omega
      have hlh : ((iN ((List.range k).filter (fun i => !pLow l len A i))).map iC).length ≤ 40 := by rw [List.length_map, iN_len]; have := List.length_filter_le (fun i => !pLow l len A i) (List.range k); rw [List.length_range] at this; omega
      have HLL := Lib.hid (And.intro hll hlh)
      have bx1 := bx.1
      have bx2 := bx.2
      subst ha
      clear hx bx hlk g2 g3 etk F1 hll hlh HF
      by_cases hxA : x * (len : Int) < A
      · have HR := Lib.hid (range_low (l := l) (n := len) (A := A) (k := k) (by unfold pLow; rw [hgx]; exact decide_eq_true hxA))
        clear hgx
        go_wp2_with (at_builtin; refine wpList_append_rows_at _ rfl _ _ 26 rfl W0.heap.size 3 _ 1 8 Try.underlying26 info_int rfl (by decide) _ ((iN ((List.range k).filter (pLow l len A))).map iC) rfl (HF1.out.oLow.alloc _) ⟨(wr.setCell ⟨T, k, none⟩ (.int .i64 (x * (len : Int)))).heap.size, 0, none⟩ 1 1 [iC (k : Int)] rfl (by first | rfl | simp [Act.eval]) (by simp [iC]) (one_row _ (iC (k : Int)) 3 _ rfl) (by simp [iC, Value.oneCell']) (by have := HLL.out.1; omega) (by decide) (Nat.le_trans HF1.out.big (by simp)) ?_; intro v6 w6 hO6 hg6 hv6)
        go_roundg (len - (k + 1))
        case measure => have := HJ.out; omega
        case rel =>
          refine ⟨k + 1, by omega, by go_num, ?_⟩
          rw [HR.out.1, HR.out.2]
          exact Lib.hid (HF1.out.pushL (by rw [iN_append, List.map_append]; exact hO6) hg6 hv6)
      · have hxA' : A ≤ x * (len : Int) := by omega
        have HR := Lib.hid (range_high (l := l) (n := len) (A := A) (k := k) (by unfold pLow; rw [hgx]; exact decide_eq_false hxA))
        clear hgx hxA
        go_wp2_with (at_builtin; refine wpList_append_rows_at _ rfl _ _ 26 rfl W0.heap.size 3 _ 1 8 Try.underlying26 info_int rfl (by decide) _ ((iN ((List.range k).filter (fun i => !pLow l len A i))).map iC) rfl (HF1.out.oHigh.alloc _) ⟨(wr.setCell ⟨T, k, none⟩ (.int .i64 (x * (len : Int)))).heap.size, 0, none⟩ 1 1 [iC (k : Int)] rfl (by first | rfl | simp [Act.eval]) (by simp [iC]) (one_row _ (iC (k : Int)) 3 _ rfl) (by simp [iC, Value.oneCell']) (by have := HLL.out.2; omega) (by decide) (Nat.le_trans HF1.out.big (by simp)) ?_; intro v6 w6 hO6 hg6 hv6)
        go_roundg (len - (k + 1))
        case measure => have := HJ.out; omega
        case rel =>
          refine ⟨k + 1, by omega, by go_num, ?_⟩
          rw [HR.out.1, HR.out.2]
          exact Lib.hid (HF1.out.pushH (by rw [iN_append, List.map_append]; exact hO6) hg6 hv6)
    · obtain rfl : k = len := by omega
      have hF := HF.out
      rw [Nat.sub_self, List.replicate_zero, List.append_nil, List.take_of_length_le (by rw [HL.out]; exact Nat.le_refl _)] at hF
      have hG : Fil wr wr W0.heap.size P l.length O R T A u8 u9 (Walker.start l).own (Walker.start l).rest (Walker.start l).left (iN (Walker.start l).low) (iN (Walker.start l).high) := by
        have e : Walker.start l = ⟨List.replicate k A, Digit.rowOf k, l.map (fun x => x * (k : Int)), (List.range k).filter (pLow l k A), (List.range k).filter (fun i => !pLow l k A i)⟩ := by
          unfold Walker.start
          rw [HL.out, HA.out]
          rfl
        rw [e, HL.out]
        exact ⟨hF.many, hF.box, hF.xo, hF.xr, hF.xt, hF.xl, hF.xh, Below.refl _ _, hF.big⟩
      have hI := HINV.out
      rw [HA.out] at hI
      have C := fill_any l A bA2 (by rw [HL.out]; exact hn40) (Walker.start l) W0.heap.size O R T u8 u9 wr hI hF.big P hG
      have et : fillN A (Walker.start l).act.length (Walker.start l) = table l := by
        rw [start_len]
        unfold table
        rw [HA.out]
      rw [et, HL.out] at C
      have HC := Lib.hid C
      obtain ⟨⟨x0, x1, x2⟩, _, _, _⟩ := whole_cells hF.box
      have HBW := Lib.hid hF.bel
      clear hF hG hI C et HF HINV HT HJ hk hlt
      go_wp2_with fail
      refine HC.out.mono ?_
      rintro e w7 ⟨rfl, vl', vh', lf, lo, hi', hF7⟩
      have hb7 : Below W0.heap.size W0 w7 := HBW.out.trans hF7.bel
      have hres : w7.heap[w.heap.size]? = some (.cells #[.int .i64 0, .slice none 0 0, .slice none 0 0] 72 (0, 0)) := (hb7.block w.heap.size (by rw [HSZ.out]; omega)).trans HK.out
      have hbw : Below w.heap.size w w7 := below_on HB.out hb7
      have hM7 := hF7.many
      have hM8 : Many (((w7.setCell ⟨w.heap.size, 0, none⟩ (.int .i64 A)).setCell ⟨w.heap.size, 1, none⟩ (.slice (some ⟨O, 0, none⟩) k k)).setCell ⟨w.heap.size, 2, none⟩ (.slice (some ⟨R, 0, none⟩) k k)) w.heap.size 3 [(.slice (some ⟨O, 0, none⟩) k k, (table l).own), (.slice (some ⟨R, 0, none⟩) k k, (table l).rest)] := by
        have lt : w.heap.size < W0.heap.size := by rw [HSZ.out]; omega
        refine ⟨fun p hp => ?_, ?_⟩
        · have hp' : p ∈ [((Value.slice (some ⟨O, 0, none⟩) k k), (table l).own), (.slice (some ⟨R, 0, none⟩) k k, (table l).rest), (.slice (some ⟨T, 0, none⟩) k k, lf), (vl', lo), (vh', hi')] := by
            rcases List.mem_cons.1 hp with rfl | hp
            · exact List.mem_cons_self ..
            · rcases List.mem_cons.1 hp with rfl | hp
              · exact List.mem_cons_of_mem _ (List.mem_cons_self ..)
              · cases hp
          exact ((((hM7.own p hp').setCell (a := ⟨w.heap.size, 0, none⟩) lt _).setCell (a := ⟨w.heap.size, 1, none⟩) lt _).setCell (a := ⟨w.heap.size, 2, none⟩) lt _).base_le (Nat.le_of_lt lt)
        · have := (List.pairwise_cons.1 hM7.apart).1 _ (List.mem_cons_self ..)
          exact List.Pairwise.cons (fun q hq => by
            rcases List.mem_cons.1 hq with rfl | hq
            · exact this
            · cases hq) (List.pairwise_singleton ..)
      have hb8 := ((hbw.setCell (p := ⟨w.heap.size, 0, none⟩) (Nat.le_refl _) (.int .i64 A)).setCell (p := ⟨w.heap.size, 1, none⟩) (Nat.le_refl _) (.slice (some ⟨O, 0, none⟩) k k)).setCell (p := ⟨w.heap.size, 2, none⟩) (Nat.le_refl _) (.slice (some ⟨R, 0, none⟩) k k)
      obtain ⟨⟨y0, y1, y2⟩, _, _, _⟩ := whole_cells hF7.box
      obtain ⟨⟨v0, v1, v2⟩, r0, r1, r2⟩ := whole_cells hres
      have HZ := Lib.hid (whole_cells (whole_set (A' := A) (u' := .slice (some ⟨O, 0, none⟩) k k) (v' := .slice (some ⟨R, 0, none⟩) k k) hres))
      have HM8 := Lib.hid (And.intro hM8 hb8)
      clear hb7 hres hbw hM7 hM8 hb8 hF7 x0 x1 x2 HC
      go_wp2_with fail
      generalize (((w7.setCell { block := w.heap.size, off := 0 } (Value.int IntKind.i64 A)).setCell { block := w.heap.size, off := 1 } (.slice (some ⟨O, 0, none⟩) k k)).setCell { block := w.heap.size, off := 2 } (.slice (some ⟨R, 0, none⟩) k k)) = w8 at *
      clear y0 y1 y2 v0 v1 v2 r0 r1 r2
      obtain ⟨⟨z0, z1, z2⟩, _, _, _⟩ := HZ.out
      try simp only [Exit.inBlock, Exit.then]
      refine bodyPost_ret (by simp [results, Try.results39, go_sem, z0, z1, z2, Result.andThen]; try rfl) rfl ?_
      exact ⟨O, R, rfl, HM8.out.1, HM8.out.2⟩
end Go.Proofs.Ytfgcmlgdgmcffab
