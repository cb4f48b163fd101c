/- The contract of the program's pond.Put. -/
import Derived.Test.YtoijeafhohcbdaaPondPut
import Derived.Deep.RegionWith
namespace Go.Proofs.Ytoijeafhohcbdaa
open Go.ChangeShapes Go.WideShapes Go.ChangeAt Go.RowKit

/-- what Put answers besides the reservoir -/
def putE (K S : Int) (n : Nat) (d : Int) : Int := if pondE K S n ≠ 0 then pondE K S n else if S = 1000000000000 then 2 else if d < 0 ∨ S < d then 1 else 0
def pondNil : Value := .agg #[.int .i64 0, .int .i64 0, .slice none 0 0]
theorem pondE_zero {K S : Int} {n : Nat} (h : pondE K S n = 0) : 1 ≤ K ∧ K ≤ 16 ∧ 0 ≤ S ∧ S ≤ 1000000000000 ∧ (n : Int) = min K S := by
  unfold pondE at h
  split at h
  · cases h
  · split at h
    · omega
    · cases h
/-- the three cells of a reservoir's block, and that they may be written -/
theorem pond_cells {w : World} {b : Nat} {K S : Int} {v : Value} {t : TypeId} (h : w.heap[b]? = some (.cells #[.int .i64 K, .int .i64 S, v] t (0, 0))) :
    (w.cell? ⟨b, 0, none⟩ = some (.int .i64 K) ∧ w.cell? ⟨b, 1, none⟩ = some (.int .i64 S) ∧ w.cell? ⟨b, 2, none⟩ = some v) ∧ w.frozen? ⟨b, 0, none⟩ = false ∧ w.frozen? ⟨b, 1, none⟩ = false ∧ w.frozen? ⟨b, 2, none⟩ = false :=
  ⟨⟨cell_blk h rfl, cell_blk h rfl, cell_blk h rfl⟩, frozen_blk h, frozen_blk h, frozen_blk h⟩
theorem pond_set {w : World} {b : Nat} {K S K' S' : Int} {v v' : Value} {t : TypeId} (h : w.heap[b]? = some (.cells #[.int .i64 K, .int .i64 S, v] t (0, 0))) :
    (((w.setCell ⟨b, 0, none⟩ (.int .i64 K')).setCell ⟨b, 1, none⟩ (.int .i64 S')).setCell ⟨b, 2, none⟩ v').heap[b]? = some (.cells #[.int .i64 K', .int .i64 S', v'] t (0, 0)) := by
  have h0 := heap_setCell_same w b 0 _ _ (.int .i64 K') h
  have h1 := heap_setCell_same _ b 1 _ _ (.int .i64 S') h0
  have h2 := heap_setCell_same _ b 2 _ _ v' h1
  rw [h2]
  rfl

theorem below_drew' {w w' : World} (h : Below w.drew.heap.size w.drew w') : Below w.heap.size w w' := ((Below.refl _ _).drew.trans h)
theorem keep_blk {w1 w2 : World} {b : Nat} {o : Obj} (hb : Below w1.heap.size w1 w2) (h : w1.heap[b]? = some o) : w2.heap[b]? = some o :=
  (hb.block b (Array.getElem?_eq_some_iff.1 h).1).trans h

set_option maxRecDepth 100000 in
set_option maxHeartbeats 1000000 in
theorem put_ok (k : Nat) (S : Int) (a : Option Addr) (len cap : Nat) (L : List Int) (x : Int) (d : Nat) (w : World) (h : Tab w a len cap 1 (L.map iC)) (hE : putE k S len d = 0) :
    Calls Try.prog 41 #[pondV k S a len cap, .int .i64 x, .int .i64 d] w fun e w' => ∃ v, e = .returned (.tuple #[.agg #[.int .i64 k, .int .i64 (S + 1), v], .int .i64 0]) ∧ Own w' w.heap.size 3 1 v ((pondL k S L x d).map iC) ∧ Below w.heap.size w w' := by
  unfold putE at hE
  split at hE
  · rename_i h0; exact absurd hE h0
  rename_i h0
  split at hE
  · cases hE
  rename_i hne
  split at hE
  · cases hE
  rename_i hd
  have hp0 : pondE k S len = 0 := Classical.not_not.1 h0
  obtain ⟨k1, k2, s1, s2, hn⟩ := pondE_zero hp0
  have hdS : (d : Int) ≤ S := by omega
  have HW := Lib.hid (fun W => pcheck_any k S a len cap W)
  rw [hp0] at HW
  have HC := Lib.hid (fun (W : World) (hT : Tab W a len cap 1 (L.map iC)) => stored_any k S a len cap L x d W hT (by omega) (by omega) (by omega))
  have HT := Lib.hid h
  have t1 : (S == 1000000000000) = false := by simpa using hne
  have hbx : Below w.heap.size w ((w.alloc (.cells #[.int .i64 k, .int .i64 S, .slice a len cap] 71)).alloc (.cells #[.int .i64 0, .int .i64 0, .slice none 0 0] 71)) := ((Below.refl _ _).alloc (Nat.le_refl _) _).alloc (by simp) _
  have HBX := Lib.hid hbx
  clear hE h0 hd hp0 hne hbx h hn
  unfold pondV at HW HC ⊢
  go_enter Try.func41, Try.ntmps41
  go_wp2_with fail
  refine (HW.out _).mono ?_
  rintro e w1 ⟨rfl, hb1⟩
  have hk1 : w1.heap[w.heap.size]? = some (.cells #[.int .i64 k, .int .i64 S, .slice a len cap] 71 (0, 0)) := by
    rw [hb1.block w.heap.size (by simp; omega), Below.heap_alloc _ _ _ (by simp)]
    exact (MapKept.heap_alloc w _).1
  have hk2 : w1.heap[w.heap.size + 1]? = some (.cells #[.int .i64 0, .int .i64 0, .slice none 0 0] 71 (0, 0)) := by
    rw [hb1.block (w.heap.size + 1) (by simp)]
    have := (MapKept.heap_alloc (w.alloc (.cells #[.int .i64 k, .int .i64 S, .slice a len cap] 71)) (.cells #[.int .i64 0, .int .i64 0, .slice none 0 0] 71)).1
    simpa using this
  have HB1 := Lib.hid (below_on HBX.out hb1)
  have hT1 := HT.out.below HB1.out
  have hs1 : w.heap.size + 1 < w1.heap.size := (Array.getElem?_eq_some_iff.1 hk2).1
  obtain ⟨⟨c0, c1, c2⟩, f0, f1, f2⟩ := pond_cells hk1
  have K1 := Lib.hid hk1
  have K2 := Lib.hid hk2
  have HT1 := Lib.hid hT1
  clear HW HBX hb1 hT1 HT hk1 hk2
  go_wp2_with fail
  go_region_with (first | (go_at_call 67; refine Calls.mono (HC.out _ ?_) ?_; (first | exact HT1.out | exact HT1.out.below ((Below.refl _ _).drew)); rintro e w2 ⟨v2, rfl, hO2, hb2⟩; obtain ⟨a2, cap2, rfl, hT2⟩ := hO2.tab; obtain ⟨⟨d0, d1, d2⟩, q0, q1, q2⟩ := pond_cells (keep_blk hb2 K1.out); obtain ⟨⟨e0, e1, e2⟩, r0, r1, r2⟩ := pond_cells (keep_blk hb2 K2.out)))
  all_goals (go_wp2_with fail)
  all_goals
    have hwr : IntKind.i64.wrap (S + 1) = S + 1 := (by rw [IntKind.wrap_i64]; omega)
    rw [hwr]
    have Z := pond_cells (pond_set (K' := k) (S' := S + 1) (v' := .slice a2 (pondL k S L x d).length cap2) (keep_blk hb2 K2.out))
    have hO3 := ((hO2.setCell (a := ⟨w.heap.size + 1, 0, none⟩) (by exact hs1) (.int .i64 k)).setCell (a := ⟨w.heap.size + 1, 1, none⟩) (by exact hs1) (.int .i64 (S + 1))).setCell (a := ⟨w.heap.size + 1, 2, none⟩) (by exact hs1) (.slice a2 (pondL k S L x d).length cap2)
    have hb3 : Below w.heap.size w _ := (((below_on HB1.out (below_drew' hb2)).setCell (p := ⟨w.heap.size + 1, 0, none⟩) (by show w.heap.size ≤ w.heap.size + 1; omega) (.int .i64 k)).setCell (p := ⟨w.heap.size + 1, 1, none⟩) (by show w.heap.size ≤ w.heap.size + 1; omega) (.int .i64 (S + 1))).setCell (p := ⟨w.heap.size + 1, 2, none⟩) (by show w.heap.size ≤ w.heap.size + 1; omega) (.slice a2 (pondL k S L x d).length cap2)
    generalize (((w2.setCell { block := w.heap.size + 1, off := 0 } (Value.int IntKind.i64 k)).setCell { block := w.heap.size + 1, off := 1 } (Value.int IntKind.i64 (S + 1))).setCell { block := w.heap.size + 1, off := 2 } (Value.slice a2 (pondL k S L x d).length cap2)) = w3 at *
    clear d0 d1 d2 e0 e1 e2 q0 q1 q2 r0 r1 r2 c0 c1 c2 f0 f1 f2
    obtain ⟨⟨z0, z1, z2⟩, _, _, _⟩ := Z
    try simp only [Exit.inBlock, Exit.then]
    refine bodyPost_ret (by simp [results, Try.results41, go_sem, z0, z1, z2, Result.andThen]; try rfl) rfl ?_
    rw [List.length_map] at hO3
    exact ⟨_, rfl, hO3.base_le (by have := HB1.out.size; exact this), hb3⟩

theorem putE_bad {K S : Int} {n : Nat} {d : Int} (h : putE K S n d ≠ 0) : pondE K S n ≠ 0 ∨ (pondE K S n = 0 ∧ S = 1000000000000) ∨ (pondE K S n = 0 ∧ S ≠ 1000000000000 ∧ (d < 0 ∨ S < d)) := by
  unfold putE at h
  by_cases h0 : pondE K S n = 0
  · right
    by_cases h1 : S = 1000000000000
    · exact Or.inl ⟨h0, h1⟩
    · right
      refine ⟨h0, h1, Classical.byContradiction fun hn => h ?_⟩
      rw [if_neg (fun h => h h0), if_neg h1, if_neg hn]
  · exact Or.inl h0

set_option maxRecDepth 100000 in
set_option maxHeartbeats 1000000 in
theorem put_bad (K S : Int) (a : Option Addr) (len cap : Nat) (x d : Int) (w : World) (hE : putE K S len d ≠ 0) :
    Calls Try.prog 41 #[pondV K S a len cap, .int .i64 x, .int .i64 d] w fun e w' => e = .returned (.tuple #[pondNil, .int .i64 (putE K S len d)]) ∧ Below w.heap.size w w' := by
  have HW := Lib.hid (fun W => pcheck_any K S a len cap W)
  have hbx : Below w.heap.size w ((w.alloc (.cells #[.int .i64 K, .int .i64 S, .slice a len cap] 71)).alloc (.cells #[.int .i64 0, .int .i64 0, .slice none 0 0] 71)) := ((Below.refl _ _).alloc (Nat.le_refl _) _).alloc (by simp) _
  have HBX := Lib.hid hbx
  have key : ∀ w1, Below ((w.alloc (.cells #[.int .i64 K, .int .i64 S, .slice a len cap] 71)).alloc (.cells #[.int .i64 0, .int .i64 0, .slice none 0 0] 71)).heap.size ((w.alloc (.cells #[.int .i64 K, .int .i64 S, .slice a len cap] 71)).alloc (.cells #[.int .i64 0, .int .i64 0, .slice none 0 0] 71)) w1 → w1.heap[w.heap.size]? = some (.cells #[.int .i64 K, .int .i64 S, .slice a len cap] 71 (0, 0)) ∧ w1.heap[w.heap.size + 1]? = some (.cells #[.int .i64 0, .int .i64 0, .slice none 0 0] 71 (0, 0)) := by
    intro w1 hb1
    refine ⟨?_, ?_⟩
    · rw [hb1.block w.heap.size (by simp; omega), Below.heap_alloc _ _ _ (by simp)]
      exact (MapKept.heap_alloc w _).1
    · rw [hb1.block (w.heap.size + 1) (by simp)]
      have := (MapKept.heap_alloc (w.alloc (.cells #[.int .i64 K, .int .i64 S, .slice a len cap] 71)) (.cells #[.int .i64 0, .int .i64 0, .slice none 0 0] 71)).1
      simpa using this
  have key2 := Lib.hid (fun (w1 : World) hb1 => And.intro (key w1 hb1) (And.intro (pond_cells (pond_set (K' := 0) (S' := 0) (v' := .slice none 0 0) (key w1 hb1).2)) ((((below_on hbx hb1).setCell (p := ⟨w.heap.size + 1, 0, none⟩) (by show w.heap.size ≤ w.heap.size + 1; omega) (.int .i64 0)).setCell (p := ⟨w.heap.size + 1, 1, none⟩) (by show w.heap.size ≤ w.heap.size + 1; omega) (.int .i64 0)).setCell (p := ⟨w.heap.size + 1, 2, none⟩) (by show w.heap.size ≤ w.heap.size + 1; omega) (.slice none 0 0))))
  clear hbx key
  unfold pondV at HW ⊢
  unfold pondNil
  rcases putE_bad hE with h0 | ⟨h0, h1⟩ | ⟨h0, h1, h2⟩
  · have E : putE K S len d = pondE K S len := if_pos h0
    rw [E]
    have t : (pondE K S len != 0) = true := by simpa using h0
    generalize pondE K S len = c at *
    clear E hE h0
    go_enter Try.func41, Try.ntmps41
    go_wp2_with fail
    refine (HW.out _).mono ?_
    rintro e w1 ⟨rfl, hb1⟩
    obtain ⟨⟨k1, k2⟩, Z, hb3⟩ := key2.out w1 hb1
    obtain ⟨⟨e0, e1, e2⟩, r0, r1, r2⟩ := pond_cells k2
    have Z := Lib.hid Z
    have HB3 := Lib.hid hb3
    clear hb3 hb1 k1 k2 key2
    go_wp2
    generalize (((w1.setCell { block := w.heap.size + 1, off := 0 } (Value.int IntKind.i64 0)).setCell { block := w.heap.size + 1, off := 1 } (Value.int IntKind.i64 0)).setCell { block := w.heap.size + 1, off := 2 } (Value.slice none 0 0)) = w3 at *
    clear e0 e1 e2 r0 r1 r2
    obtain ⟨⟨z0, z1, z2⟩, _, _, _⟩ := Z.out
    try simp only [Exit.inBlock, Exit.then]
    refine bodyPost_ret (by simp [results, Try.results41, go_sem, z0, z1, z2, Result.andThen]; try rfl) rfl ?_
    exact ⟨rfl, HB3.out⟩
  · have E : putE K S len d = 2 := (if_neg (fun h => h h0)).trans (if_pos h1)
    rw [E]
    rw [h0] at HW
    have t : (S == 1000000000000) = true := by simpa using h1
    clear E hE h0 h1
    go_enter Try.func41, Try.ntmps41
    go_wp2_with fail
    refine (HW.out _).mono ?_
    rintro e w1 ⟨rfl, hb1⟩
    obtain ⟨⟨k1, k2⟩, Z, hb3⟩ := key2.out w1 hb1
    obtain ⟨⟨c0, c1, c2⟩, f0, f1, f2⟩ := pond_cells k1
    obtain ⟨⟨e0, e1, e2⟩, r0, r1, r2⟩ := pond_cells k2
    have Z := Lib.hid Z
    have HB3 := Lib.hid hb3
    clear hb3 hb1 k1 k2 key2
    go_wp2
    generalize (((w1.setCell { block := w.heap.size + 1, off := 0 } (Value.int IntKind.i64 0)).setCell { block := w.heap.size + 1, off := 1 } (Value.int IntKind.i64 0)).setCell { block := w.heap.size + 1, off := 2 } (Value.slice none 0 0)) = w3 at *
    clear e0 e1 e2 r0 r1 r2 c0 c1 c2 f0 f1 f2
    obtain ⟨⟨z0, z1, z2⟩, _, _, _⟩ := Z.out
    try simp only [Exit.inBlock, Exit.then]
    refine bodyPost_ret (by simp [results, Try.results41, go_sem, z0, z1, z2, Result.andThen]; try rfl) rfl ?_
    exact ⟨rfl, HB3.out⟩
  · have E : putE K S len d = 1 := (if_neg (fun h => h h0)).trans ((if_neg h1).trans (if_pos h2))
    rw [E]
    rw [h0] at HW
    have t : (S == 1000000000000) = false := by simpa using h1
    have h3 : d < 0 ∨ (0 ≤ d ∧ S < d) := by omega
    clear E hE h0 h1 h2
    rcases h3 with h3 | ⟨h3, h4⟩
    all_goals
      go_enter Try.func41, Try.ntmps41
      go_wp2_with fail
      refine (HW.out _).mono ?_
      rintro e w1 ⟨rfl, hb1⟩
      obtain ⟨⟨k1, k2⟩, Z, hb3⟩ := key2.out w1 hb1
      obtain ⟨⟨c0, c1, c2⟩, f0, f1, f2⟩ := pond_cells k1
      obtain ⟨⟨e0, e1, e2⟩, r0, r1, r2⟩ := pond_cells k2
      have Z := Lib.hid Z
      have HB3 := Lib.hid hb3
      clear hb3 hb1 k1 k2 key2
      go_wp2
      generalize (((w1.setCell { block := w.heap.size + 1, off := 0 } (Value.int IntKind.i64 0)).setCell { block := w.heap.size + 1, off := 1 } (Value.int IntKind.i64 0)).setCell { block := w.heap.size + 1, off := 2 } (Value.slice none 0 0)) = w3 at *
      clear e0 e1 e2 r0 r1 r2 c0 c1 c2 f0 f1 f2
      obtain ⟨⟨z0, z1, z2⟩, _, _, _⟩ := Z.out
      try simp only [Exit.inBlock, Exit.then]
      refine bodyPost_ret (by simp [results, Try.results41, go_sem, z0, z1, z2, Result.andThen]; try rfl) rfl ?_
      exact ⟨rfl, HB3.out⟩
end Go.Proofs.Ytoijeafhohcbdaa
