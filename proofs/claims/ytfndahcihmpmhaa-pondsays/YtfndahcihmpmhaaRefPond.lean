/- The contracts of the document's own reservoirs (culref.Count, Pond, SamePond, Came). -/
import Derived.Test.YtfndahcihmpmhaaPondVar
import Derived.Test.YtfndahcihmpmhaaRefWithin
import Derived.Test.YtfndahcihmpmhaaEqualInts
import Derived.Deep.LoopGhost
namespace Go.Proofs.Ytfndahcihmpmhaa
open Go.ChangeShapes Go.WideShapes Go.ChangeAt Go.RowKit

set_option maxHeartbeats 400000 in
theorem count_ref (n : Int) (w : World) :
    Calls Try.prog 41 #[.int .i64 n] w fun e w' => e = .returned (.bool (decide (0 ≤ n) && decide (n ≤ 1000000000000))) ∧ w = w' := by
  have H := Lib.hid (within_ref n 0 1000000000000 w)
  generalize (decide (0 ≤ n) && decide (n ≤ 1000000000000)) = c at *
  go_enter Try.func41, Try.ntmps41
  go_wp2_with fail
  refine H.out.mono ?_
  rintro e w1 ⟨rfl, rfl⟩
  go_wp2
  go_ret
  exact ⟨rfl, rfl⟩

set_option maxRecDepth 100000 in
set_option maxHeartbeats 1000000 in
theorem refPond_any (K S : Int) (a : Option Addr) (len cap : Nat) (w : World) :
    Calls Try.prog 14 #[pondV K S a len cap] w fun e w' => e = .returned (.int .i64 (pondE K S len)) ∧ Below w.heap.size w w' := by
  unfold pondV
  have hb : Below w.heap.size w (w.alloc (.cells #[.int .i64 K, .int .i64 S, .slice a len cap] 24)) := (Below.refl _ _).alloc (Nat.le_refl _) _
  have HB := Lib.hid hb
  have HW := Lib.hid (fun W => within_ref K 1 16 W)
  have HC := Lib.hid (fun W => count_ref S W)
  clear hb
  by_cases h1 : 1 ≤ K ∧ K ≤ 16
  · have hx : (decide (1 ≤ K) && decide (K ≤ 16)) = true := by simp [h1.1, h1.2]
    rw [hx] at HW
    by_cases h2 : 0 ≤ S ∧ S ≤ 1000000000000
    · have hy : (decide (0 ≤ S) && decide (S ≤ 1000000000000)) = true := by simp [h2.1, h2.2]
      rw [hy] at HC
      have E : pondE K S len = if (len : Int) = min K S then 0 else 7 := if_neg (by omega)
      rw [E]
      clear E hx hy h1 h2
      by_cases hSK : S < K
      · rw [show min K S = S from by omega]
        by_cases h5 : (len : Int) = S
        · rw [if_pos h5]
          have t : ((len : Int) != S) = false := by simpa using h5
          clear h5
          go_enter Try.func14, Try.ntmps14
          go_wp2_with fail
          refine (HW.out _).mono ?_
          rintro e w1 ⟨rfl, rfl⟩
          go_wp2_with fail
          refine (HC.out _).mono ?_
          rintro e w1 ⟨rfl, rfl⟩
          go_wp2
          go_ret
          exact ⟨rfl, HB.out⟩
        · rw [if_neg h5]
          have t : ((len : Int) != S) = true := by simpa using h5
          clear h5
          go_enter Try.func14, Try.ntmps14
          go_wp2_with fail
          refine (HW.out _).mono ?_
          rintro e w1 ⟨rfl, rfl⟩
          go_wp2_with fail
          refine (HC.out _).mono ?_
          rintro e w1 ⟨rfl, rfl⟩
          go_wp2
          go_ret
          exact ⟨rfl, HB.out⟩
      · have hKS : K ≤ S := by omega
        clear hSK
        rw [show min K S = K from by omega]
        by_cases h5 : (len : Int) = K
        · rw [if_pos h5]
          have t : ((len : Int) != K) = false := by simpa using h5
          clear h5
          go_enter Try.func14, Try.ntmps14
          go_wp2_with fail
          refine (HW.out _).mono ?_
          rintro e w1 ⟨rfl, rfl⟩
          go_wp2_with fail
          refine (HC.out _).mono ?_
          rintro e w1 ⟨rfl, rfl⟩
          go_wp2
          go_ret
          exact ⟨rfl, HB.out⟩
        · rw [if_neg h5]
          have t : ((len : Int) != K) = true := by simpa using h5
          clear h5
          go_enter Try.func14, Try.ntmps14
          go_wp2_with fail
          refine (HW.out _).mono ?_
          rintro e w1 ⟨rfl, rfl⟩
          go_wp2_with fail
          refine (HC.out _).mono ?_
          rintro e w1 ⟨rfl, rfl⟩
          go_wp2
          go_ret
          exact ⟨rfl, HB.out⟩
    · have hy : (decide (0 ≤ S) && decide (S ≤ 1000000000000)) = false := by
        rw [Bool.and_eq_false_iff, decide_eq_false_iff_not, decide_eq_false_iff_not]; omega
      rw [hy] at HC
      have E : pondE K S len = 1 := if_pos (by omega)
      rw [E]
      clear E hx hy h1 h2
      go_enter Try.func14, Try.ntmps14
      go_wp2_with fail
      refine (HW.out _).mono ?_
      rintro e w1 ⟨rfl, rfl⟩
      go_wp2_with fail
      refine (HC.out _).mono ?_
      rintro e w1 ⟨rfl, rfl⟩
      go_wp2
      go_ret
      exact ⟨rfl, HB.out⟩
  · have hx : (decide (1 ≤ K) && decide (K ≤ 16)) = false := by
      rw [Bool.and_eq_false_iff, decide_eq_false_iff_not, decide_eq_false_iff_not]; omega
    rw [hx] at HW
    have E : pondE K S len = 1 := if_pos (by omega)
    rw [E]
    clear E hx h1
    go_enter Try.func14, Try.ntmps14
    go_wp2_with fail
    refine (HW.out _).mono ?_
    rintro e w1 ⟨rfl, rfl⟩
    go_wp2
    go_ret
    exact ⟨rfl, HB.out⟩

set_option maxRecDepth 100000 in
set_option maxHeartbeats 1000000 in
theorem samePond_yes (K S : Int) (a b : Option Addr) (la ca lb cb : Nat) (l : List Int) (w : World) (h1 : Tab w a la ca 1 (l.map iC)) (h2 : Tab w b lb cb 1 (l.map iC)) :
    Calls Try.prog 16 #[pondV K S a la ca, pondV K S b lb cb] w fun e w' => e = .returned (.bool true) ∧ Below w.heap.size w w' := by
  unfold pondV
  have hb : Below w.heap.size w ((w.alloc (.cells #[.int .i64 K, .int .i64 S, .slice a la ca] 24)).alloc (.cells #[.int .i64 K, .int .i64 S, .slice b lb cb] 24)) := ((Below.refl _ _).alloc (Nat.le_refl _) _).alloc (by simp) _
  have HE := Lib.hid (equal_ints a b la ca lb cb l l _ (h1.below hb) (h2.below hb) true (by simp))
  have HB := Lib.hid hb
  clear h1 h2 hb
  have tK : (K == K) = true := by simp
  have tS : (S == S) = true := by simp
  go_enter Try.func16, Try.ntmps16
  go_wp2_with fail
  refine HE.out.mono ?_
  rintro e w1 ⟨rfl, hb1⟩
  go_wp2
  go_ret
  exact ⟨rfl, below_on HB.out hb1⟩

/-- the items so far, while the document's own answer is made: all are copied, but the one that is drawn -/
def cameG (k : Nat) (S : Int) (L : List Int) (x : Int) (d : Nat) : List Int := if S < (k : Int) then L else pondL k S L x d
theorem cameG_len (k : Nat) (S : Int) (L : List Int) (x : Int) (d : Nat) : (cameG k S L x d).length = L.length := by
  unfold cameG
  split
  · rfl
  · rename_i h
    rw [pondL_len, if_neg h]
theorem cameG_get {k : Nat} {S : Int} {L : List Int} {x : Int} {d j : Nat} {y : Int} (hy : L[j]? = some y) (hl : (k : Int) ≤ S → L.length = k) : (cameG k S L x d)[j]? = some (if (k : Int) ≤ S ∧ j = d then x else y) := by
  have hj := (List.getElem?_eq_some_iff.1 hy).1
  unfold cameG
  by_cases h : S < (k : Int)
  · rw [if_pos h, if_neg (by omega), hy]
  · have := hl (by omega)
    rw [if_neg h]
    unfold pondL
    rw [if_neg h]
    by_cases e : j = d
    · subst e
      rw [if_pos (by omega), if_pos ⟨by omega, rfl⟩, List.getElem?_set_self hj]
    · rw [if_neg (show ¬((k : Int) ≤ S ∧ j = d) from fun h => e h.2)]
      split
      · rw [List.getElem?_set_ne (fun h => e h.symm), hy]
      · exact hy
theorem take_put {l : List Int} {j : Nat} {y : Int} (h : l[j]? = some y) : l.take (j + 1) = l.take j ++ [y] := by
  rw [List.take_add_one, h]; rfl

set_option maxRecDepth 100000 in
set_option maxHeartbeats 2000000 in
theorem came_ok (k : Nat) (S : Int) (a : Option Addr) (len cap : Nat) (L : List Int) (x : Int) (d : Nat) (w : World) (h : Tab w a len cap 1 (L.map iC)) (hE : pondE k S len = 0) :
    Calls Try.prog 17 #[pondV k S a len cap, .int .i64 x, .int .i64 d] w fun e w' => ∃ v, e = .returned (.agg #[.int .i64 k, .int .i64 (S + 1), v]) ∧ Own w' w.heap.size 3 1 v ((pondL k S L x d).map iC) ∧ Below w.heap.size w w' := by
  obtain ⟨k1, k2, s1, s2, hn⟩ := pondE_zero hE
  unfold pondV
  have hl := h.hlen
  rw [List.length_map] at hl
  have hlen16 : len ≤ 16 := by omega
  obtain ⟨w0, hw0⟩ : ∃ w0, w0 = (w.alloc (.cells #[.int .i64 k, .int .i64 S, .slice a len cap] 24)).alloc (.cells #[.int .i64 0, .int .i64 0, .slice none 0 0] 24) := ⟨_, rfl⟩
  have hsz : w0.heap.size = w.heap.size + 1 + 1 := by rw [hw0]; simp
  have hbx : Below w.heap.size w w0 := by rw [hw0]; exact ((Below.refl _ _).alloc (Nat.le_refl _) _).alloc (by simp) _
  have hx1 : w0.heap[w.heap.size]? = some (.cells #[.int .i64 k, .int .i64 S, .slice a len cap] 24 (0, 0)) := by rw [hw0]; exact heap_two _ _ _
  have hx2 : w0.heap[w.heap.size + 1]? = some (.cells #[.int .i64 0, .int .i64 0, .slice none 0 0] 24 (0, 0)) := by
    rw [hw0]
    have := (MapKept.heap_alloc (w.alloc (.cells #[.int .i64 k, .int .i64 S, .slice a len cap] 24)) (.cells #[.int .i64 0, .int .i64 0, .slice none 0 0] 24)).1
    simpa using this
  have HX1 := Lib.hid hx1
  have HX2 := Lib.hid hx2
  have HBX := Lib.hid hbx
  have HT := Lib.hid (h.below hbx)
  have HL := Lib.hid hl
  have HG : Hid ((k : Int) ≤ S → L.length = k) := Lib.hid (by rw [hl]; omega)
  have HP0 := Lib.hid (PVar.new (w := w0) (wr := w0) k (S + 1) (Below.refl _ _))
  have HSZ := Lib.hid hsz
  have HW0 := Lib.hid hw0
  have HN : Hid ((S < (k : Int) → len < k) ∧ ((k : Int) ≤ S → len = k)) := Lib.hid (by omega)
  clear hE h hl hsz hbx hx1 hx2 hw0 hn
  go_enter Try.func17, Try.ntmps17
  go_wp2_with fail
  rw [← HW0.out]
  rw [HSZ.out] at HP0
  generalize hW1 : w0.alloc (.cells #[.int .i64 k, .int .i64 (S + 1), .slice none 0 0] 24) = W1 at *
  clear hW1 HW0
  go_loopg [19] len (fun g i wr => ∃ (j : Nat) (v : Value), j + g = len ∧ i = .int .i64 j ∧ Hid (PVar w0 wr (w.heap.size + 1 + 1) k (S + 1) v ((cameG k S L x d).take j)))
  case atStart => exact ⟨0, _, by omega, rfl, HP0⟩
  case round =>
    clear HP0
    obtain ⟨j, v, hj0, rfl, HP⟩ := hrel
    have HJ := Lib.hid hj0
    have hj : j ≤ len := by omega
    clear hj0
    have hlj : ((cameG k S L x d).take j).length = j := by rw [List.length_take, cameG_len, HL.out]; omega
    obtain ⟨aj, cj, rfl, hTj⟩ := HP.out.own.tab
    rw [List.length_map, hlj] at hTj HP
    have HTj := Lib.hid hTj
    have HLJ := Lib.hid hlj
    clear hTj hlj
    obtain ⟨⟨c0, c1, c2⟩, f0, f1, f2⟩ := pond_cells HP.out.blk
    obtain ⟨⟨d0, d1, d2⟩, _, _, _⟩ := pond_cells (keep_blk HP.out.bel HX1.out)
    by_cases hlt : j < len
    · obtain ⟨y, hy⟩ : ∃ y, L[j]? = some y := ⟨_, List.getElem?_eq_getElem (by rw [HL.out]; exact hlt)⟩
      obtain ⟨b1, o1, ha, hbs, cy⟩ := HT.out.one HP.out.bel (map_get hy)
      subst ha
      have HY := Lib.hid (take_put (cameG_get (x := x) (d := d) hy HG.out))
      clear hy
      by_cases hk : (k : Int) ≤ S
      · by_cases e : j = d
        · subst e
          rw [if_pos ⟨hk, rfl⟩] at HY
          go_wp2_with ((at_builtin; refine wpList_append_rows _ rfl _ _ 22 rfl (w.heap.size + 1 + 1 + 1) 3 _ 1 8 Try.underlying22 info_int rfl (by decide) _ _ rfl (HP.out.own.alloc _) ⟨wr.heap.size, 0, none⟩ 1 1 [iC x] rfl rfl (by simp [iC]) (one_row wr (iC x) 3 _ rfl) (by simp [iC, Value.oneCell']) (by rw [List.length_map, HLJ.out]; omega) (by decide) (by have := HP.out.big; simp; omega) ?_; intro v6 w6 hO6 hg6; obtain ⟨hk6, hb6⟩ := HP.out.mid hg6; obtain ⟨⟨e0, e1, e2⟩, r0, r1, r2⟩ := pond_cells hk6; have HP6 := Lib.hid (PVar.push hk6 hb6 hO6 HP.out.lo); obtain ⟨a6, cap6, rfl, hT6⟩ := hO6.tab; have hn6 : (((cameG k S L x j).take j).map iC ++ [iC x]).length = j + 1 := (by rw [List.length_append, List.length_map, HLJ.out]; rfl); rw [hn6] at HP6 ⊢; clear hn6))
          go_roundg (len - (j + 1))
          case measure => have := HJ.out; omega
          case rel => exact ⟨j + 1, _, by omega, by go_num, by rw [HY.out]; exact HP6⟩
        · rw [if_neg (show ¬((k : Int) ≤ S ∧ j = d) from fun h => e h.2)] at HY
          have t1 : ((j : Int) == (d : Int)) = false := by rw [beq_eq_false_iff_ne]; omega
          go_wp2_with ((at_builtin; refine wpList_append_rows _ rfl _ _ 22 rfl (w.heap.size + 1 + 1 + 1) 3 _ 1 8 Try.underlying22 info_int rfl (by decide) _ _ rfl (HP.out.own.alloc _) ⟨wr.heap.size, 0, none⟩ 1 1 [iC y] rfl rfl (by simp [iC]) (one_row wr (iC y) 3 _ rfl) (by simp [iC, Value.oneCell']) (by rw [List.length_map, HLJ.out]; omega) (by decide) (by have := HP.out.big; simp; omega) ?_; intro v6 w6 hO6 hg6; obtain ⟨hk6, hb6⟩ := HP.out.mid hg6; obtain ⟨⟨e0, e1, e2⟩, r0, r1, r2⟩ := pond_cells hk6; have HP6 := Lib.hid (PVar.push hk6 hb6 hO6 HP.out.lo); obtain ⟨a6, cap6, rfl, hT6⟩ := hO6.tab; have hn6 : (((cameG k S L x d).take j).map iC ++ [iC y]).length = j + 1 := (by rw [List.length_append, List.length_map, HLJ.out]; rfl); rw [hn6] at HP6 ⊢; clear hn6))
          go_roundg (len - (j + 1))
          case measure => have := HJ.out; omega
          case rel => exact ⟨j + 1, _, by omega, by go_num, by rw [HY.out]; exact HP6⟩
      · rw [if_neg (show ¬((k : Int) ≤ S ∧ j = d) from fun h => hk h.1)] at HY
        have hk' : S < (k : Int) := by omega
        clear hk
        go_wp2_with ((at_builtin; refine wpList_append_rows _ rfl _ _ 22 rfl (w.heap.size + 1 + 1 + 1) 3 _ 1 8 Try.underlying22 info_int rfl (by decide) _ _ rfl (HP.out.own.alloc _) ⟨wr.heap.size, 0, none⟩ 1 1 [iC y] rfl rfl (by simp [iC]) (one_row wr (iC y) 3 _ rfl) (by simp [iC, Value.oneCell']) (by rw [List.length_map, HLJ.out]; omega) (by decide) (by have := HP.out.big; simp; omega) ?_; intro v6 w6 hO6 hg6; obtain ⟨hk6, hb6⟩ := HP.out.mid hg6; obtain ⟨⟨e0, e1, e2⟩, r0, r1, r2⟩ := pond_cells hk6; have HP6 := Lib.hid (PVar.push hk6 hb6 hO6 HP.out.lo); obtain ⟨a6, cap6, rfl, hT6⟩ := hO6.tab; have hn6 : (((cameG k S L x d).take j).map iC ++ [iC y]).length = j + 1 := (by rw [List.length_append, List.length_map, HLJ.out]; rfl); rw [hn6] at HP6 ⊢; clear hn6))
        go_roundg (len - (j + 1))
        case measure => have := HJ.out; omega
        case rel => exact ⟨j + 1, _, by omega, by go_num, by rw [HY.out]; exact HP6⟩
    · obtain rfl : j = len := by omega
      have hall : (cameG k S L x d).take j = cameG k S L x d := List.take_of_length_le (by rw [cameG_len, HL.out]; omega)
      rw [hall] at HP
      clear HJ hj hlt hall HLJ HTj
      have hlw := HP.out.lo
      have hbig := HP.out.big
      rw [HSZ.out] at hlw
      by_cases hk : S < (k : Int)
      · have hjk := HN.out.1 hk
        have HY : Hid (cameG k S L x d ++ [x] = pondL k S L x d) := by
          unfold cameG pondL
          rw [if_pos hk, if_pos hk]; rfl
        have HGL : Hid ((cameG k S L x d).length = j) := Lib.hid (by rw [cameG_len]; exact HL.out)
        go_wp2_with ((at_builtin; refine wpList_append_rows _ rfl _ _ 22 rfl (w.heap.size + 1 + 1 + 1) 3 _ 1 8 Try.underlying22 info_int rfl (by decide) _ _ rfl (HP.out.own.alloc _) ⟨wr.heap.size, 0, none⟩ 1 1 [iC x] rfl rfl (by simp [iC]) (one_row wr (iC x) 3 _ rfl) (by simp [iC, Value.oneCell']) (by rw [List.length_map, HGL.out]; omega) (by decide) (by simp; omega) ?_; intro v6 w6 hO6 hg6; obtain ⟨hk6, hb6⟩ := HP.out.mid hg6; obtain ⟨⟨e0, e1, e2⟩, r0, r1, r2⟩ := pond_cells hk6; obtain ⟨⟨g0, g1, g2⟩, q0, q1, q2⟩ := pond_cells (keep_blk hb6 HX2.out); have HP6 := Lib.hid (PVar.push hk6 hb6 hO6 HP.out.lo); obtain ⟨a6, cap6, rfl, hT6⟩ := hO6.tab; have hn6 : ((cameG k S L x d).map iC ++ [iC x]).length = j + 1 := (by rw [List.length_append, List.length_map, HGL.out]; rfl); rw [hn6] at HP6 ⊢; clear hn6))
        rw [HY.out] at HP6
        have Z := pond_cells (pond_set (K' := k) (S' := S + 1) (v' := .slice a6 (j + 1) cap6) (keep_blk HP6.out.bel HX2.out))
        have hO7 := ((HP6.out.own.setCell (a := ⟨w.heap.size + 1, 0, none⟩) (by show w.heap.size + 1 < _; omega) (.int .i64 k)).setCell (a := ⟨w.heap.size + 1, 1, none⟩) (by show w.heap.size + 1 < _; omega) (.int .i64 (S + 1))).setCell (a := ⟨w.heap.size + 1, 2, none⟩) (by show w.heap.size + 1 < _; omega) (.slice a6 (j + 1) cap6)
        have hb7 := (((below_on HBX.out HP6.out.bel).setCell (p := ⟨w.heap.size + 1, 0, none⟩) (by show w.heap.size ≤ w.heap.size + 1; omega) (.int .i64 k)).setCell (p := ⟨w.heap.size + 1, 1, none⟩) (by show w.heap.size ≤ w.heap.size + 1; omega) (.int .i64 (S + 1))).setCell (p := ⟨w.heap.size + 1, 2, none⟩) (by show w.heap.size ≤ w.heap.size + 1; omega) (.slice a6 (j + 1) cap6)
        generalize ((((w6.setCell { block := w.heap.size + 1 + 1, off := 2 } (Value.slice a6 (j + 1) cap6)).setCell { block := w.heap.size + 1, off := 0 } (Value.int IntKind.i64 k)).setCell { block := w.heap.size + 1, off := 1 } (Value.int IntKind.i64 (S + 1))).setCell { block := w.heap.size + 1, off := 2 } (Value.slice a6 (j + 1) cap6)) = w3 at *
        clear c0 c1 c2 d0 d1 d2 f0 f1 f2 e0 e1 e2 r0 r1 r2 g0 g1 g2 q0 q1 q2
        obtain ⟨⟨z0, z1, z2⟩, _, _, _⟩ := Z
        try simp only [Exit.inBlock, Exit.then]
        refine bodyPost_ret (by simp [results, Try.results17, go_sem, z0, z1, z2, Result.andThen]; try rfl) rfl ?_
        exact ⟨_, rfl, hO7.base_le (by omega), hb7⟩
      · have hk' : (k : Int) ≤ S := by omega
        obtain rfl := HN.out.2 hk'
        have HY : Hid (cameG j S L x d = pondL j S L x d) := Lib.hid (if_neg hk)
        rw [HY.out] at HP
        obtain ⟨⟨g0, g1, g2⟩, q0, q1, q2⟩ := pond_cells (keep_blk HP.out.bel HX2.out)
        clear hk
        go_wp2_with fail
        have Z := pond_cells (pond_set (K' := j) (S' := S + 1) (v' := .slice aj j cj) (keep_blk HP.out.bel HX2.out))
        have hO7 := ((HP.out.own.setCell (a := ⟨w.heap.size + 1, 0, none⟩) (by show w.heap.size + 1 < _; omega) (.int .i64 j)).setCell (a := ⟨w.heap.size + 1, 1, none⟩) (by show w.heap.size + 1 < _; omega) (.int .i64 (S + 1))).setCell (a := ⟨w.heap.size + 1, 2, none⟩) (by show w.heap.size + 1 < _; omega) (.slice aj j cj)
        have hb7 := (((below_on HBX.out HP.out.bel).setCell (p := ⟨w.heap.size + 1, 0, none⟩) (by show w.heap.size ≤ w.heap.size + 1; omega) (.int .i64 j)).setCell (p := ⟨w.heap.size + 1, 1, none⟩) (by show w.heap.size ≤ w.heap.size + 1; omega) (.int .i64 (S + 1))).setCell (p := ⟨w.heap.size + 1, 2, none⟩) (by show w.heap.size ≤ w.heap.size + 1; omega) (.slice aj j cj)
        generalize (((wr.setCell { block := w.heap.size + 1, off := 0 } (Value.int IntKind.i64 j)).setCell { block := w.heap.size + 1, off := 1 } (Value.int IntKind.i64 (S + 1))).setCell { block := w.heap.size + 1, off := 2 } (Value.slice aj j cj)) = w3 at *
        clear c0 c1 c2 d0 d1 d2 f0 f1 f2 g0 g1 g2 q0 q1 q2
        obtain ⟨⟨z0, z1, z2⟩, _, _, _⟩ := Z
        try simp only [Exit.inBlock, Exit.then]
        refine bodyPost_ret (by simp [results, Try.results17, go_sem, z0, z1, z2, Result.andThen]; try rfl) rfl ?_
        exact ⟨_, rfl, hO7.base_le (by omega), hb7⟩
end Go.Proofs.Ytfndahcihmpmhaa
