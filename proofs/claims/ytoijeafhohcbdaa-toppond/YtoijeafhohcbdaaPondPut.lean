/- The contracts of the program's pond.stored and pond.Put. -/
import Derived.Test.YtoijeafhohcbdaaPondCheck
import Derived.Test.YtoijeafhohcbdaaCloneInts
import Derived.Test.YtoijeafhohcbdaaOwnMore
import Derived.Test.YtoijeafhohcbdaaRefGateMath
import Derived.RegionTactic
import Derived.BigRegion
import Derived.Deep.DeepCutAuto
namespace Go.Proofs.Ytoijeafhohcbdaa
open Go.ChangeShapes Go.WideShapes Go.ChangeAt Go.RowKit

/-- the items after x was offered, d drawn -/
def pondL (k : Nat) (S : Int) (L : List Int) (x : Int) (d : Nat) : List Int := if S < (k : Int) then L ++ [x] else if d < k then L.set d x else L

/-- the block that a call's own box lies in stays as it was laid -/
theorem boxed {w w1 : World} {cs : Array Value} {t : TypeId} (hb : Below (w.alloc (.cells cs t)).heap.size (w.alloc (.cells cs t)) w1) {i : Nat} {u : Value} (hu : cs[i]? = some u) : w1.cell? ⟨w.heap.size, i, none⟩ = some u := by
  refine cell_blk (cs := cs) (t := t) ?_ hu
  rw [hb.block w.heap.size (by simp)]
  exact (MapKept.heap_alloc w _).1

theorem Own.spot {w : World} {base : Nat} {e : TypeId} {v : Value} {L : List Int} (h : Own w base e 1 v (L.map iC)) (hl : 0 < L.length) : ∃ g cap, v = .slice (some ⟨g, 0, none⟩) L.length cap := by
  rcases h.own.2 with ⟨_, h0'⟩ | ⟨g', cap', cur, h0, _⟩
  · rw [List.length_map] at h0'; omega
  · rw [List.length_map] at h0
    exact ⟨g', cap', h0⟩

set_option maxRecDepth 100000 in
set_option maxHeartbeats 1000000 in
theorem stored_any (k : Nat) (S : Int) (a : Option Addr) (len cap : Nat) (L : List Int) (x : Int) (d : Nat) (w : World) (h : Tab w a len cap 1 (L.map iC)) (hk : k ≤ 16) (h1 : S < (k : Int) → len < k) (h2 : (k : Int) ≤ S → len = k) :
    Calls Try.prog 67 #[pondV k S a len cap, .int .i64 x, .int .i64 d] w (RetRows w 3 1 ((pondL k S L x d).map iC)) := by
  unfold pondV
  obtain ⟨i0, hi, hz0, hz1, hz2⟩ := info_parts info_int
  have hl := h.hlen
  rw [List.length_map] at hl
  have hle : len ≤ 16 := by omega
  have hbx : Below w.heap.size w (w.alloc (.cells #[.int .i64 k, .int .i64 S, .slice a len cap] 71)) := (Below.refl _ _).alloc (Nat.le_refl _) _
  have HL := Lib.hid hl
  have HT := Lib.hid (h.below hbx)
  have HBX := Lib.hid hbx
  have HS : Hid ((w.alloc (.cells #[.int .i64 k, .int .i64 S, .slice a len cap] 71)).heap.size = w.heap.size + 1) := Lib.hid (by simp)
  have HI := Lib.hid (And.intro hi (And.intro hz0 (And.intro hz1 hz2)))
  clear h hl hi hz0 hz1 hz2 hbx
  by_cases hS : S < (k : Int)
  · have hlt := h1 hS
    rw [show pondL k S L x d = L ++ [x] from if_pos hS]
    clear h1 h2
    go_enter Try.func67, Try.ntmps67
    go_wp2_with (first
      | (at_make; refine wpList_make_own _ rfl _ _ 23 rfl _ 3 i0 (.int .i64 0) 1 Try.underlying23 HI.out.1 HI.out.2.1 HI.out.2.2.1 _ _ _ k rfl rfl rfl (by rw [HI.out.2.2.2]; omega) (by unfold maxLen; omega) (Nat.le_refl _) ?_; intro w1 hO1 hg1; rw [HS.out] at hO1; have hb1 := (Below.refl _ _).grown hg1 (Nat.le_refl _) (fun j hj => by cases hj); have s1 := hb1.size; rw [HS.out] at s1; have c2 := boxed hb1 (i := 2) rfl)
      | (at_builtin; refine wpList_append_tab _ rfl _ _ 23 rfl (w.heap.size + 1) 3 _ 1 8 Try.underlying23 info_int rfl (by decide) _ [] rfl (Own.made hO1) a len cap (L.map iC) (w.alloc (.cells #[.int .i64 k, .int .i64 S, .slice a len cap] 71)) HT.out hb1 rfl (rows_of iC_len L) (one_of iC_one L) (by simp; omega) (by decide) s1 ?_; intro v2 w2 hO2 hg2; have hb2 := (Own.made hO1).under hb1 (by rw [HS.out]; exact Nat.le_refl _) hb1.size hg2; clear hO1 hg1 hb1 c2; have c0 := boxed hb2 (i := 0) rfl; have c1 := boxed hb2 (i := 1) rfl)
      | (at_builtin; refine wpList_append_rows _ rfl _ _ 23 rfl (w.heap.size + 1) 3 _ 1 8 Try.underlying23 info_int rfl (by decide) v2 (L.map iC) rfl (hO2.alloc _) ⟨w2.heap.size, 0, none⟩ 1 1 [iC x] rfl rfl (by simp [iC]) (one_row w2 (iC x) 3 _ rfl) (by simp [iC, Value.oneCell']) (by simp; rw [HL.out]; omega) (by decide) (by have := hb2.size; simp at this ⊢; omega) ?_; intro v3 w3 hO3 hg3))
    go_ret
    refine ⟨_, rfl, ?_, ?_⟩
    · rw [List.map_append]
      exact hO3.base_le (by omega)
    · have := hO2.alloc (.cells #[.int .i64 x] 3)
      exact this.under (below_on HBX.out (hb2.alloc (by have := hb2.size; exact this) _)) (by omega) (by have := hb2.size; have h := HS.out; simp at *; omega) hg3
  · have hS' : (k : Int) ≤ S := by omega
    obtain rfl : len = k := h2 hS'
    clear h1 h2 hle
    by_cases hd : d < len
    · rw [show pondL len S L x d = L.set d x from (if_neg hS).trans (if_pos hd)]
      obtain ⟨y, hy⟩ : ∃ y, L[d]? = some y := ⟨_, List.getElem?_eq_getElem (by rw [HL.out]; exact hd)⟩
      have HY : Hid (([] ++ L.map iC)[d]? = some [.int .i64 y]) := Lib.hid (map_get hy)
      have HL0 : Hid (0 < L.length) := Lib.hid (by rw [HL.out]; omega)
      clear hy
      clear hS
      go_enter Try.func67, Try.ntmps67
      go_wp2_with (first
      | (at_make; refine wpList_make_own _ rfl _ _ 23 rfl _ 3 i0 (.int .i64 0) 1 Try.underlying23 HI.out.1 HI.out.2.1 HI.out.2.2.1 _ _ _ len rfl rfl rfl (by rw [HI.out.2.2.2]; omega) (by unfold maxLen; omega) (Nat.le_refl _) ?_; intro w1 hO1 hg1; rw [HS.out] at hO1; have hb1 := (Below.refl _ _).grown hg1 (Nat.le_refl _) (fun j hj => by cases hj); have s1 := hb1.size; rw [HS.out] at s1; have c2 := boxed hb1 (i := 2) rfl)
      | (at_builtin; refine wpList_append_tab _ rfl _ _ 23 rfl (w.heap.size + 1) 3 _ 1 8 Try.underlying23 info_int rfl (by decide) _ [] rfl (Own.made hO1) a len cap (L.map iC) (w.alloc (.cells #[.int .i64 len, .int .i64 S, .slice a len cap] 71)) HT.out hb1 rfl (rows_of iC_len L) (one_of iC_one L) (by simp; omega) (by decide) s1 ?_; intro v2 w2 hO2 hg2; have hb2 := (Own.made hO1).under hb1 (by rw [HS.out]; exact Nat.le_refl _) hb1.size hg2; clear hO1 hg1 hb1 c2; have c0 := boxed hb2 (i := 0) rfl; have c1 := boxed hb2 (i := 1) rfl; obtain ⟨g, cap2, hv2⟩ := hO2.spot HL0.out; rw [HL.out] at hv2; subst hv2; obtain ⟨c3, f3, g3, g4⟩ := hO2.at1 HY.out))
      go_ret
      refine ⟨_, rfl, ?_, below_on HBX.out (hb2.setCell (by rw [HS.out]; exact g3) _)⟩
      have hO4 := hO2.set1 HY.out (.int .i64 x)
      rw [List.nil_append, ← show iC x = [Value.int .i64 x] from rfl, ← List.map_set] at hO4
      exact hO4.base_le (by omega)
    · rw [show pondL len S L x d = L from (if_neg hS).trans (if_neg hd)]
      have hd' : len ≤ d := by omega
      clear hS hd
      go_enter Try.func67, Try.ntmps67
      go_wp2_with (first
      | (at_make; refine wpList_make_own _ rfl _ _ 23 rfl _ 3 i0 (.int .i64 0) 1 Try.underlying23 HI.out.1 HI.out.2.1 HI.out.2.2.1 _ _ _ len rfl rfl rfl (by rw [HI.out.2.2.2]; omega) (by unfold maxLen; omega) (Nat.le_refl _) ?_; intro w1 hO1 hg1; rw [HS.out] at hO1; have hb1 := (Below.refl _ _).grown hg1 (Nat.le_refl _) (fun j hj => by cases hj); have s1 := hb1.size; rw [HS.out] at s1; have c2 := boxed hb1 (i := 2) rfl)
      | (at_builtin; refine wpList_append_tab _ rfl _ _ 23 rfl (w.heap.size + 1) 3 _ 1 8 Try.underlying23 info_int rfl (by decide) _ [] rfl (Own.made hO1) a len cap (L.map iC) (w.alloc (.cells #[.int .i64 len, .int .i64 S, .slice a len cap] 71)) HT.out hb1 rfl (rows_of iC_len L) (one_of iC_one L) (by simp; omega) (by decide) s1 ?_; intro v2 w2 hO2 hg2; have hb2 := (Own.made hO1).under hb1 (by rw [HS.out]; exact Nat.le_refl _) hb1.size hg2; clear hO1 hg1 hb1 c2; have c0 := boxed hb2 (i := 0) rfl; have c1 := boxed hb2 (i := 1) rfl))
      go_ret
      exact ⟨_, rfl, hO2.base_le (by omega), below_on HBX.out hb2⟩
end Go.Proofs.Ytoijeafhohcbdaa
