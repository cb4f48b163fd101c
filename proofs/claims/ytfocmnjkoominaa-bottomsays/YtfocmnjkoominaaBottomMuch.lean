/- The contract of the program's bottom.Many on a sketch that may be. -/
import Derived.Test.YtfocmnjkoominaaBottomPut
namespace Go.Proofs.Ytfocmnjkoominaa
open Go.ChangeShapes Go.WideShapes Go.ChangeAt Go.RowKit
open Least

namespace Least
/-- what Many answers -/
def manyR (k : Nat) (L : List Int) : Int := if L.length < k then (L.length : Int) else match L[k - 1]? with | some g => (((k : Int) - 1) * 72057594037927936).tdiv g | none => 0
def manyE (k : Nat) (L : List Int) : Int := if L.length < k then 0 else match L[k - 1]? with | some g => if g = 0 then 6 else 0 | none => 0
theorem many_few {k : Nat} {L : List Int} (h : L.length < k) : manyR k L = (L.length : Int) ∧ manyE k L = 0 := ⟨if_pos h, if_pos h⟩
theorem many_full {k : Nat} {L : List Int} {g : Int} (h : ¬ L.length < k) (hg : L[k - 1]? = some g) : manyR k L = (((k : Int) - 1) * 72057594037927936).tdiv g ∧ manyE k L = if g = 0 then 6 else 0 := by
  unfold manyR manyE
  rw [if_neg h, if_neg h, hg]
  exact ⟨rfl, rfl⟩
theorem many_zero {k : Nat} : (((k : Int) - 1) * 72057594037927936).tdiv 0 = 0 := Int.tdiv_zero _
theorem div_bd {k : Nat} {g : Int} (h1 : 1 ≤ k) (h2 : k ≤ 40) (g0 : 0 < g) : 0 ≤ (((k : Int) - 1) * 72057594037927936).tdiv g ∧ (((k : Int) - 1) * 72057594037927936).tdiv g ≤ 2810246167479189504 := by
  have h0 : 0 ≤ ((k : Int) - 1) * 72057594037927936 := by omega
  rw [Int.tdiv_eq_ediv_of_nonneg h0]
  refine ⟨Int.ediv_nonneg h0 (by omega), ?_⟩
  have h3 := Int.ediv_le_self g h0
  omega
end Least

set_option maxRecDepth 100000 in
set_option maxHeartbeats 2000000 in
theorem bmany_ok (k : Nat) (a : Option Addr) (len cap : Nat) (l : List Int) (w : World) (h : Tab w a len cap 1 (l.map iC)) (hE : bottomE k l = 0) :
    Calls Try.prog 10 #[bottomV k a len cap] w fun e w' => e = .returned (.tuple #[.int .i64 (manyR k l), .int .i64 (manyE k l)]) ∧ Below w.heap.size w w' := by
  obtain ⟨k1, k2, hlk, hok⟩ := bottomE_zero hE
  have hl := h.hlen
  rw [List.length_map] at hl
  have hl0 : l.length = len := hl
  have hbx : Below w.heap.size w (w.alloc (.cells #[.int .i64 k, .slice a len cap] 24)) := (Below.refl _ _).alloc (Nat.le_refl _) _
  have HW1 := bcheck_any k a len cap l _ (h.below hbx)
  rw [hE] at HW1
  have HW := Lib.hid HW1
  have HT := Lib.hid h
  have HBX := Lib.hid hbx
  have hk1 : 1 ≤ k := by omega
  have hk2 : k ≤ 40 := by omega
  have hlen : len ≤ k := by omega
  clear HW1 hE hbx h hl k1 k2 hlk
  unfold bottomV at HW ⊢
  by_cases c1 : len < k
  · rw [(many_few (k := k) (L := l) (by omega)).1, (many_few (k := k) (L := l) (by omega)).2, hl0]
    clear hl0 hok
    go_enter Try.func10, Try.ntmps10
    go_wp2_with fail
    refine HW.out.mono ?_
    rintro e w1 ⟨rfl, hb1⟩
    have hk := kept_blk hb1 (MapKept.heap_alloc w _).1
    obtain ⟨⟨c0, c1⟩, f0, f1⟩ := two_cells hk
    have HB1 := Lib.hid (below_on HBX.out hb1)
    clear hb1 hk HW
    go_wp2
    go_ret2
    exact ⟨rfl, HB1.out⟩
  obtain rfl : len = k := by omega
  obtain ⟨g, hg⟩ : ∃ g, l[len - 1]? = some g := ⟨_, List.getElem?_eq_getElem (by omega)⟩
  have hgb := hok.2 g (List.mem_of_getElem? hg)
  obtain ⟨e1, e2⟩ := many_full (k := len) (L := l) (by omega) hg
  have hco : ∀ wr, Below w.heap.size w wr → ∃ b o, a = some ⟨b, o, none⟩ ∧ wr.cell? ⟨b, o + (len - 1), none⟩ = some (.int .i64 g) := fun wr hb => by
    obtain ⟨b, o, ha, _, hc⟩ := HT.out.one hb (map_get hg)
    exact ⟨b, o, ha, hc⟩
  have hi1 : ((len : Int) - 1).toNat = len - 1 := by omega
  by_cases c2 : g = 0
  · subst c2
    rw [e1, e2, many_zero, if_pos rfl]
    clear e1 e2 hg hgb hl0 hok c1
    go_enter Try.func10, Try.ntmps10
    go_wp2_with fail
    refine HW.out.mono ?_
    rintro e w1 ⟨rfl, hb1⟩
    have hk := kept_blk hb1 (MapKept.heap_alloc w _).1
    obtain ⟨⟨c0, c1⟩, f0, f1⟩ := two_cells hk
    have HB1 := Lib.hid (below_on HBX.out hb1)
    obtain ⟨b, o, rfl, d0⟩ := hco w1 HB1.out
    clear hb1 hk HW hco
    go_wp2
    go_ret2
    exact ⟨rfl, HB1.out⟩
  · have g0 : 0 < g := by omega
    have hd := div_bd hk1 hk2 g0
    have t9 : (g == 0) = false := by simpa using c2
    rw [e1, e2, if_neg c2]
    obtain ⟨R, hR⟩ : ∃ R, (((len : Int) - 1) * 72057594037927936).tdiv g = R := ⟨_, rfl⟩
    rw [hR] at hd ⊢
    obtain ⟨d1, d2⟩ := hd
    have g1 : g < 72057594037927936 := hgb.2
    clear e1 e2 hg hgb hl0 hok c1 c2
    go_enter Try.func10, Try.ntmps10
    go_wp2_with fail
    refine HW.out.mono ?_
    rintro e w1 ⟨rfl, hb1⟩
    have hk := kept_blk hb1 (MapKept.heap_alloc w _).1
    obtain ⟨⟨c0, c1⟩, f0, f1⟩ := two_cells hk
    have HB1 := Lib.hid (below_on HBX.out hb1)
    obtain ⟨b, o, rfl, d0⟩ := hco w1 HB1.out
    clear hb1 hk HW hco
    go_wp2
    go_ret2
    exact ⟨rfl, HB1.out⟩
end Go.Proofs.Ytfocmnjkoominaa
