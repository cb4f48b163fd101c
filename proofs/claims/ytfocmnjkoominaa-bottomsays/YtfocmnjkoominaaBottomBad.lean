/- The contracts of the program's bottom.Put, Join and Many, whatever is handed in. -/
import Derived.Test.YtfocmnjkoominaaBottomMuch
import Derived.Test.YtfocmnjkoominaaBottomJoin
namespace Go.Proofs.Ytfocmnjkoominaa
open Go.ChangeShapes Go.WideShapes Go.ChangeAt Go.RowKit
open Least

namespace Least
def putEB (K : Int) (l : List Int) (n : Int) : Int := if bottomE K l = 0 then (if 0 ≤ n ∧ n < 72057594037927936 then 0 else 1) else bottomE K l
def putKB (K : Int) (l : List Int) (n : Int) : Int := if putEB K l n = 0 then K else 0
def putLB (K : Int) (l : List Int) (n : Int) : List Int := if putEB K l n = 0 then T K.toNat (l ++ [n]) else []
def joinEB (K : Int) (l : List Int) (K2 : Int) (m : List Int) : Int := if bottomE K l = 0 then (if bottomE K2 m = 0 then (if K = K2 then 0 else 7) else bottomE K2 m) else bottomE K l
def joinKB (K : Int) (l : List Int) (K2 : Int) (m : List Int) : Int := if joinEB K l K2 m = 0 then K else 0
def joinLB (K : Int) (l : List Int) (K2 : Int) (m : List Int) : List Int := if joinEB K l K2 m = 0 then T K.toNat (l ++ m) else []
def manyRB (K : Int) (l : List Int) : Int := if bottomE K l = 0 then manyR K.toNat l else 0
def manyEB (K : Int) (l : List Int) : Int := if bottomE K l = 0 then manyE K.toNat l else bottomE K l
end Least

set_option maxRecDepth 100000 in
set_option maxHeartbeats 2000000 in
theorem bput_no (K : Int) (a : Option Addr) (len cap : Nat) (l : List Int) (n : Int) (w : World) (h : Tab w a len cap 1 (l.map iC)) (hE : putEB K l n ≠ 0) :
    Calls Try.prog 8 #[bottomV K a len cap, .int .i64 n] w fun e w' => e = .returned (.tuple #[.agg #[.int .i64 0, .slice none 0 0], .int .i64 (putEB K l n)]) ∧ Below w.heap.size w w' := by
  have hbx : Below w.heap.size w ((w.alloc (.cells #[.int .i64 K, .slice a len cap] 24)).alloc (.cells #[.int .i64 0, .slice none 0 0] 24)) := ((Below.refl _ _).alloc (Nat.le_refl _) _).alloc (by simp) _
  have HW := Lib.hid (bcheck_any K a len cap l _ (h.below hbx))
  have HBX := Lib.hid hbx
  have HK : Hid (∀ w1, Below ((w.alloc (.cells #[.int .i64 K, .slice a len cap] 24)).alloc (.cells #[.int .i64 0, .slice none 0 0] 24)).heap.size ((w.alloc (.cells #[.int .i64 K, .slice a len cap] 24)).alloc (.cells #[.int .i64 0, .slice none 0 0] 24)) w1 → w1.heap[w.heap.size + 1]? = some (.cells #[.int .i64 0, .slice none 0 0] 24 (0, 0))) := Lib.hid (fun w1 hb1 => by
    rw [hb1.block (w.heap.size + 1) (by simp)]
    have := (MapKept.heap_alloc (w.alloc (.cells #[.int .i64 K, .slice a len cap] 24)) (.cells #[.int .i64 0, .slice none 0 0] 24)).1
    simpa using this)
  clear h hbx
  unfold bottomV at HW ⊢
  by_cases c1 : bottomE K l = 0
  · have hn : ¬ (0 ≤ n ∧ n < 72057594037927936) := fun c => hE (by unfold putEB; rw [if_pos c1, if_pos c])
    have hR : putEB K l n = 1 := by unfold putEB; rw [if_pos c1, if_neg hn]
    rw [hR]
    rw [c1] at HW
    have CI := fun W => inRange_any n W
    rw [show (decide (0 ≤ n) && decide (n < 72057594037927936)) = false from by rw [← Bool.not_eq_true, Bool.and_eq_true, decide_eq_true_iff, decide_eq_true_iff]; exact hn] at CI
    have CI := Lib.hid CI
    clear hE hR hn c1
    go_enter Try.func8, Try.ntmps8
    go_wp2_with fail
    refine HW.out.mono ?_
    rintro e w1 ⟨rfl, hb1⟩
    have hk := HK.out w1 hb1
    obtain ⟨⟨e0, e1⟩, r0, r1⟩ := two_cells hk
    have Z := Lib.hid (two_cells (two_set (K' := 0) (v' := .slice none 0 0) hk))
    have HB3 := Lib.hid (((below_on HBX.out hb1).setCell (p := ⟨w.heap.size + 1, 0, none⟩) (by show w.heap.size ≤ w.heap.size + 1; omega) (.int .i64 0)).setCell (p := ⟨w.heap.size + 1, 1, none⟩) (by show w.heap.size ≤ w.heap.size + 1; omega) (.slice none 0 0))
    clear hk hb1 HK HBX HW
    go_wp2_with fail
    refine (CI.out _).mono ?_
    rintro e w4 ⟨rfl, hw4⟩
    rw [← hw4]
    clear hw4 CI
    go_wp2
    generalize ((w1.setCell { block := w.heap.size + 1, off := 0 } (Value.int IntKind.i64 0)).setCell { block := w.heap.size + 1, off := 1 } (Value.slice none 0 0)) = w3 at *
    clear e0 e1 r0 r1
    obtain ⟨⟨z0, z1⟩, _, _⟩ := Z.out
    try simp only [Exit.inBlock, Exit.then]
    refine bodyPost_ret (by simp [results, Try.results8, go_sem, z0, z1, Result.andThen]; try rfl) rfl ?_
    exact ⟨rfl, HB3.out⟩
  · have hR : putEB K l n = bottomE K l := if_neg c1
    rw [hR]
    have t : (bottomE K l != 0) = true := by simpa using c1
    clear hE hR c1
    generalize bottomE K l = E at *
    go_enter Try.func8, Try.ntmps8
    go_wp2_with fail
    refine HW.out.mono ?_
    rintro e w1 ⟨rfl, hb1⟩
    have hk := HK.out w1 hb1
    obtain ⟨⟨e0, e1⟩, r0, r1⟩ := two_cells hk
    have Z := Lib.hid (two_cells (two_set (K' := 0) (v' := .slice none 0 0) hk))
    have HB3 := Lib.hid (((below_on HBX.out hb1).setCell (p := ⟨w.heap.size + 1, 0, none⟩) (by show w.heap.size ≤ w.heap.size + 1; omega) (.int .i64 0)).setCell (p := ⟨w.heap.size + 1, 1, none⟩) (by show w.heap.size ≤ w.heap.size + 1; omega) (.slice none 0 0))
    clear hk hb1 HK HBX HW
    go_wp2
    generalize ((w1.setCell { block := w.heap.size + 1, off := 0 } (Value.int IntKind.i64 0)).setCell { block := w.heap.size + 1, off := 1 } (Value.slice none 0 0)) = w3 at *
    clear e0 e1 r0 r1
    obtain ⟨⟨z0, z1⟩, _, _⟩ := Z.out
    try simp only [Exit.inBlock, Exit.then]
    refine bodyPost_ret (by simp [results, Try.results8, go_sem, z0, z1, Result.andThen]; try rfl) rfl ?_
    exact ⟨rfl, HB3.out⟩

theorem bput_all (K : Int) (a : Option Addr) (len cap : Nat) (l : List Int) (n : Int) (w : World) (h : Tab w a len cap 1 (l.map iC)) :
    Calls Try.prog 8 #[bottomV K a len cap, .int .i64 n] w fun e w' => ∃ v, e = .returned (.tuple #[.agg #[.int .i64 (putKB K l n), v], .int .i64 (putEB K l n)]) ∧ Own w' w.heap.size 3 1 v ((putLB K l n).map iC) ∧ Below w.heap.size w w' := by
  by_cases hE : putEB K l n = 0
  · have h0 : bottomE K l = 0 := by
      by_cases c : bottomE K l = 0
      · exact c
      · unfold putEB at hE; rw [if_neg c] at hE; exact absurd hE c
    have hn : 0 ≤ n ∧ n < 72057594037927936 := by
      by_cases c : 0 ≤ n ∧ n < 72057594037927936
      · exact c
      · unfold putEB at hE; rw [if_pos h0, if_neg c] at hE; cases hE
    unfold putKB putLB
    rw [if_pos hE, if_pos hE, hE]
    obtain ⟨k, rfl⟩ := Int.eq_ofNat_of_zero_le (show 0 ≤ K by have := (bottomE_zero h0).1; omega)
    exact bput_ok k a len cap l n w h h0 hn.1 hn.2
  · unfold putKB putLB
    rw [if_neg hE, if_neg hE]
    refine (bput_no K a len cap l n w h hE).mono ?_
    rintro e w' ⟨rfl, hb⟩
    exact ⟨_, rfl, Own.nil _ _ _ _, hb⟩

set_option maxRecDepth 100000 in
set_option maxHeartbeats 2000000 in
theorem bjoin_no (K K2 : Int) (a b : Option Addr) (len cap len2 cap2 : Nat) (l m : List Int) (w : World) (h : Tab w a len cap 1 (l.map iC)) (h2 : Tab w b len2 cap2 1 (m.map iC)) (hE : joinEB K l K2 m ≠ 0) :
    Calls Try.prog 9 #[bottomV K a len cap, bottomV K2 b len2 cap2] w fun e w' => e = .returned (.tuple #[.agg #[.int .i64 0, .slice none 0 0], .int .i64 (joinEB K l K2 m)]) ∧ Below w.heap.size w w' := by
  have hbx : Below w.heap.size w (((w.alloc (.cells #[.int .i64 K, .slice a len cap] 24)).alloc (.cells #[.int .i64 K2, .slice b len2 cap2] 24)).alloc (.cells #[.int .i64 0, .slice none 0 0] 24)) := (((Below.refl _ _).alloc (Nat.le_refl _) _).alloc (by simp) _).alloc (by simp; omega) _
  have HW := Lib.hid (bcheck_any K a len cap l _ (h.below hbx))
  have HW2 := Lib.hid (fun W (hT : Tab W b len2 cap2 1 (m.map iC)) => bcheck_any K2 b len2 cap2 m W hT)
  have HT2 := Lib.hid h2
  have HBX := Lib.hid hbx
  have k1 : ((((w.alloc (.cells #[.int .i64 K, .slice a len cap] 24)).alloc (.cells #[.int .i64 K2, .slice b len2 cap2] 24)).alloc (.cells #[.int .i64 0, .slice none 0 0] 24))).heap[w.heap.size]? = some (.cells #[.int .i64 K, .slice a len cap] 24 (0, 0)) := by
    rw [Below.heap_alloc _ _ _ (by simp; omega), Below.heap_alloc _ _ _ (by simp)]
    exact (MapKept.heap_alloc w _).1
  have k2 : ((((w.alloc (.cells #[.int .i64 K, .slice a len cap] 24)).alloc (.cells #[.int .i64 K2, .slice b len2 cap2] 24)).alloc (.cells #[.int .i64 0, .slice none 0 0] 24))).heap[w.heap.size + 1]? = some (.cells #[.int .i64 K2, .slice b len2 cap2] 24 (0, 0)) := by
    rw [Below.heap_alloc _ _ _ (by simp)]
    have := (MapKept.heap_alloc (w.alloc (.cells #[.int .i64 K, .slice a len cap] 24)) (.cells #[.int .i64 K2, .slice b len2 cap2] 24)).1
    simpa using this
  have k3 : ((((w.alloc (.cells #[.int .i64 K, .slice a len cap] 24)).alloc (.cells #[.int .i64 K2, .slice b len2 cap2] 24)).alloc (.cells #[.int .i64 0, .slice none 0 0] 24))).heap[w.heap.size + 1 + 1]? = some (.cells #[.int .i64 0, .slice none 0 0] 24 (0, 0)) := by
    have := (MapKept.heap_alloc ((w.alloc (.cells #[.int .i64 K, .slice a len cap] 24)).alloc (.cells #[.int .i64 K2, .slice b len2 cap2] 24)) (.cells #[.int .i64 0, .slice none 0 0] 24)).1
    simpa using this
  have HK := Lib.hid (And.intro k1 (And.intro k2 k3))
  clear h h2 hbx k1 k2 k3
  unfold bottomV at HW HW2 ⊢
  by_cases c1 : bottomE K l = 0
  · rw [c1] at HW
    have hR : joinEB K l K2 m = if bottomE K2 m = 0 then 7 else bottomE K2 m := by
      unfold joinEB
      rw [if_pos c1]
      by_cases c2 : bottomE K2 m = 0
      · rw [if_pos c2, if_pos c2, if_neg (fun c => hE (by unfold joinEB; rw [if_pos c1, if_pos c2, if_pos c]))]
      · rw [if_neg c2, if_neg c2]
    have HNE : Hid (bottomE K2 m = 0 → K ≠ K2) := Lib.hid (fun c2 c => hE (by unfold joinEB; rw [if_pos c1, if_pos c2, if_pos c]))
    clear hE c1
    generalize joinEB K l K2 m = R at *
    generalize bottomE K2 m = E at *
    have HR := Lib.hid hR
    clear hR
    go_enter Try.func9, Try.ntmps9
    go_wp2_with fail
    refine HW.out.mono ?_
    rintro e w1 ⟨rfl, hb1⟩
    have j1 := kept_blk hb1 HK.out.1
    have j2 := kept_blk hb1 HK.out.2.1
    have j3 := kept_blk hb1 HK.out.2.2
    have HB1 := Lib.hid (below_on HBX.out hb1)
    have C2 := Lib.hid (HW2.out w1 (HT2.out.below HB1.out))
    obtain ⟨⟨c0, c2⟩, _, _⟩ := two_cells j2
    have J1 := Lib.hid j1
    have J2 := Lib.hid j2
    have J3 := Lib.hid j3
    clear j1 j2 j3 hb1 HW HK HW2 HT2 HBX
    go_wp2_with fail
    refine C2.out.mono ?_
    rintro e w2 ⟨rfl, hb2⟩
    have j3 := kept_blk hb2 J3.out
    obtain ⟨⟨e0, e1⟩, r0, r1⟩ := two_cells j3
    obtain ⟨⟨x0, x1⟩, _, _⟩ := two_cells (kept_blk hb2 J1.out)
    obtain ⟨⟨y0, y1⟩, _, _⟩ := two_cells (kept_blk hb2 J2.out)
    have Z := Lib.hid (two_cells (two_set (K' := 0) (v' := .slice none 0 0) j3))
    have HB3 := Lib.hid (((below_on HB1.out hb2).setCell (p := ⟨w.heap.size + 1 + 1, 0, none⟩) (by show w.heap.size ≤ w.heap.size + 1 + 1; omega) (.int .i64 0)).setCell (p := ⟨w.heap.size + 1 + 1, 1, none⟩) (by show w.heap.size ≤ w.heap.size + 1 + 1; omega) (.slice none 0 0))
    clear j3 hb2 J1 J2 J3 HB1 C2 c0 c2
    by_cases c2 : E = 0
    · obtain rfl : R = 7 := by rw [HR.out, if_pos c2]
      have t : (K != K2) = true := by simpa using HNE.out c2
      subst c2
      clear HR HNE
      go_wp2
      generalize ((w2.setCell { block := w.heap.size + 1 + 1, off := 0 } (Value.int IntKind.i64 0)).setCell { block := w.heap.size + 1 + 1, off := 1 } (Value.slice none 0 0)) = w3 at *
      clear e0 e1 r0 r1 x0 x1 y0 y1
      obtain ⟨⟨z0, z1⟩, _, _⟩ := Z.out
      try simp only [Exit.inBlock, Exit.then]
      refine bodyPost_ret (by simp [results, Try.results9, go_sem, z0, z1, Result.andThen]; try rfl) rfl ?_
      exact ⟨rfl, HB3.out⟩
    · obtain rfl : R = E := by rw [HR.out, if_neg c2]
      have t : (R != 0) = true := by simpa using c2
      clear HR HNE c2
      go_wp2
      generalize ((w2.setCell { block := w.heap.size + 1 + 1, off := 0 } (Value.int IntKind.i64 0)).setCell { block := w.heap.size + 1 + 1, off := 1 } (Value.slice none 0 0)) = w3 at *
      clear e0 e1 r0 r1 x0 x1 y0 y1
      obtain ⟨⟨z0, z1⟩, _, _⟩ := Z.out
      try simp only [Exit.inBlock, Exit.then]
      refine bodyPost_ret (by simp [results, Try.results9, go_sem, z0, z1, Result.andThen]; try rfl) rfl ?_
      exact ⟨rfl, HB3.out⟩
  · have hR : joinEB K l K2 m = bottomE K l := if_neg c1
    rw [hR]
    have t : (bottomE K l != 0) = true := by simpa using c1
    clear hE hR c1 HW2 HT2
    generalize bottomE K l = E at *
    go_enter Try.func9, Try.ntmps9
    go_wp2_with fail
    refine HW.out.mono ?_
    rintro e w1 ⟨rfl, hb1⟩
    have hk := kept_blk hb1 HK.out.2.2
    obtain ⟨⟨e0, e1⟩, r0, r1⟩ := two_cells hk
    have Z := Lib.hid (two_cells (two_set (K' := 0) (v' := .slice none 0 0) hk))
    have HB3 := Lib.hid (((below_on HBX.out hb1).setCell (p := ⟨w.heap.size + 1 + 1, 0, none⟩) (by show w.heap.size ≤ w.heap.size + 1 + 1; omega) (.int .i64 0)).setCell (p := ⟨w.heap.size + 1 + 1, 1, none⟩) (by show w.heap.size ≤ w.heap.size + 1 + 1; omega) (.slice none 0 0))
    clear hk hb1 HK HBX HW
    go_wp2
    generalize ((w1.setCell { block := w.heap.size + 1 + 1, off := 0 } (Value.int IntKind.i64 0)).setCell { block := w.heap.size + 1 + 1, off := 1 } (Value.slice none 0 0)) = w3 at *
    clear e0 e1 r0 r1
    obtain ⟨⟨z0, z1⟩, _, _⟩ := Z.out
    try simp only [Exit.inBlock, Exit.then]
    refine bodyPost_ret (by simp [results, Try.results9, go_sem, z0, z1, Result.andThen]; try rfl) rfl ?_
    exact ⟨rfl, HB3.out⟩

theorem bjoin_all (K K2 : Int) (a b : Option Addr) (len cap len2 cap2 : Nat) (l m : List Int) (w : World) (h : Tab w a len cap 1 (l.map iC)) (h2 : Tab w b len2 cap2 1 (m.map iC)) :
    Calls Try.prog 9 #[bottomV K a len cap, bottomV K2 b len2 cap2] w fun e w' => ∃ v, e = .returned (.tuple #[.agg #[.int .i64 (joinKB K l K2 m), v], .int .i64 (joinEB K l K2 m)]) ∧ Own w' w.heap.size 3 1 v ((joinLB K l K2 m).map iC) ∧ Below w.heap.size w w' := by
  by_cases hE : joinEB K l K2 m = 0
  · have h0 : bottomE K l = 0 := by
      by_cases c : bottomE K l = 0
      · exact c
      · unfold joinEB at hE; rw [if_neg c] at hE; exact absurd hE c
    have h1 : bottomE K2 m = 0 := by
      by_cases c : bottomE K2 m = 0
      · exact c
      · unfold joinEB at hE; rw [if_pos h0, if_neg c] at hE; exact absurd hE c
    have hn : K = K2 := by
      by_cases c : K = K2
      · exact c
      · unfold joinEB at hE; rw [if_pos h0, if_pos h1, if_neg c] at hE; cases hE
    unfold joinKB joinLB
    rw [if_pos hE, if_pos hE, hE]
    subst hn
    obtain ⟨k, rfl⟩ := Int.eq_ofNat_of_zero_le (show 0 ≤ K by have := (bottomE_zero h0).1; omega)
    exact bjoin_ok k a b len cap len2 cap2 l m w h h2 h0 h1
  · unfold joinKB joinLB
    rw [if_neg hE, if_neg hE]
    refine (bjoin_no K K2 a b len cap len2 cap2 l m w h h2 hE).mono ?_
    rintro e w' ⟨rfl, hb⟩
    exact ⟨_, rfl, Own.nil _ _ _ _, hb⟩

set_option maxRecDepth 100000 in
set_option maxHeartbeats 2000000 in
theorem bmany_all (K : Int) (a : Option Addr) (len cap : Nat) (l : List Int) (w : World) (h : Tab w a len cap 1 (l.map iC)) :
    Calls Try.prog 10 #[bottomV K a len cap] w fun e w' => e = .returned (.tuple #[.int .i64 (manyRB K l), .int .i64 (manyEB K l)]) ∧ Below w.heap.size w w' := by
  by_cases hE : bottomE K l = 0
  · unfold manyRB manyEB
    rw [if_pos hE, if_pos hE]
    obtain ⟨k, rfl⟩ := Int.eq_ofNat_of_zero_le (show 0 ≤ K by have := (bottomE_zero hE).1; omega)
    exact bmany_ok k a len cap l w h hE
  · unfold manyRB manyEB
    rw [if_neg hE, if_neg hE]
    have hbx : Below w.heap.size w (w.alloc (.cells #[.int .i64 K, .slice a len cap] 24)) := (Below.refl _ _).alloc (Nat.le_refl _) _
    have HW := Lib.hid (bcheck_any K a len cap l _ (h.below hbx))
    have HBX := Lib.hid hbx
    have t : (bottomE K l != 0) = true := by simpa using hE
    clear h hbx hE
    unfold bottomV at HW ⊢
    generalize bottomE K l = E at *
    go_enter Try.func10, Try.ntmps10
    go_wp2_with fail
    refine HW.out.mono ?_
    rintro e w1 ⟨rfl, hb1⟩
    have HB1 := Lib.hid (below_on HBX.out hb1)
    clear hb1 HW
    go_wp2
    go_ret2
    exact ⟨rfl, HB1.out⟩
end Go.Proofs.Ytfocmnjkoominaa
