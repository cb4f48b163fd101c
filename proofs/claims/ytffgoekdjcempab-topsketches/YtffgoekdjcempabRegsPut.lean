/- The contract of the program's regs.Put, whatever is handed in. -/
import Derived.Test.YtffgoekdjcempabRegsCheck
import Derived.Test.YtffgoekdjcempabGr15
import Derived.Test.YtffgoekdjcempabGr13
import Derived.Test.YtffgoekdjcempabShelf
import Derived.RegionTactic
import Derived.BigRegion
import Derived.BigQuiet
namespace Go.Proofs.Ytffgoekdjcempab
open Go.ChangeShapes Go.WideShapes Go.ChangeAt Go.RowKit
open Regs

namespace Regs
def putE (l : List Int) (n : Int) : Int := if regE l ≠ 0 then regE l else if n < 0 ∨ 72057594037927936 ≤ n then 1 else 0
def putL (l : List Int) (n : Int) : List Int := if putE l n = 0 then putR l n else []
theorem putE_zero {l : List Int} {n : Int} : putE l n = 0 ↔ regE l = 0 ∧ 0 ≤ n ∧ n < 72057594037927936 := by
  unfold putE
  split
  · rename_i h; constructor
    · intro h2; exact absurd h2 h
    · rintro ⟨h2, _⟩; exact absurd h2 h
  split
  · constructor
    · intro h2; cases h2
    · omega
  · constructor
    · intro _; omega
    · intro _; rfl
theorem own_block {w : World} {base : Nat} {e : TypeId} {v : Value} {l : List Int} (h : Own w base e 1 v (l.map iC)) (hl : 0 < l.length) : ∃ g cap, v = .slice (some ⟨g, 0, none⟩) l.length cap := by
  rcases h.own.2 with ⟨_, h0⟩ | ⟨g, cap, cur, h0, _⟩
  · rw [List.length_map] at h0; omega
  · rw [List.length_map] at h0
    exact ⟨g, cap, h0⟩
end Regs

set_option maxRecDepth 100000 in
set_option maxHeartbeats 4000000 in
theorem regsPut_any (a : Option Addr) (len cap : Nat) (l : List Int) (n : Int) (w : World) (h : Tab w a len cap 1 (l.map iC)) :
    Calls Try.prog 37 #[.slice a len cap, .int .i64 n] w fun e w' => ∃ v, e = .returned (.tuple #[v, .int .i64 (putE l n)]) ∧ Own w' w.heap.size 3 1 v ((putL l n).map iC) ∧ Below w.heap.size w w' := by
  have hl := h.hlen
  rw [List.length_map] at hl
  have hm := h.hmax
  have hle := h.hle
  unfold maxLen at hm
  have HC := Lib.hid (regsCheck_any a len cap l w h)
  by_cases hE : regE l = 0
  · by_cases hn : n < 0 ∨ 72057594037927936 ≤ n
    · have e1 : putE l n = 1 := by unfold putE; rw [if_neg (by omega), if_pos hn]
      have e2 : putL l n = [] := by unfold putL; rw [if_neg (by omega)]
      rw [e1, e2]
      rw [hE] at HC
      clear e1 e2 hE h hl
      by_cases h0 : n < 0
      · have t : decide (n < 0) = true := decide_eq_true h0
        clear hn
        go_enter Try.func37, Try.ntmps37
        go_wp2_with fail
        refine HC.out.mono ?_
        rintro e w1 ⟨rfl, hb⟩
        have HB := Lib.hid hb
        clear hb
        go_wp2
        go_ret2
        exact ⟨_, rfl, Own.nil _ _ _ _, HB.out⟩
      · have t1 : decide (n < 0) = false := decide_eq_false h0
        have t2 : decide (n ≥ 72057594037927936) = true := decide_eq_true (by omega)
        clear hn h0
        go_enter Try.func37, Try.ntmps37
        go_wp2_with fail
        refine HC.out.mono ?_
        rintro e w1 ⟨rfl, hb⟩
        have HB := Lib.hid hb
        clear hb
        go_wp2
        go_ret2
        exact ⟨_, rfl, Own.nil _ _ _ _, HB.out⟩
    · have e1 : putE l n = 0 := putE_zero.2 ⟨hE, by omega, by omega⟩
      have e2 : putL l n = putR l n := by unfold putL; rw [if_pos e1]
      rw [e1, e2]
      rw [hE] at HC
      obtain ⟨hlr, hbd⟩ := regE_zero.1 hE
      obtain ⟨hp1, hp2⟩ := lenR_pos hlr
      rw [hl] at hp1 hp2
      have h0 : 0 ≤ n := by omega
      have h1 : n < 72057594037927936 := by omega
      have hq0 : Int.tdiv n (len : Int) = n / (len : Int) := Int.tdiv_eq_ediv_of_nonneg h0
      have hr0 : Int.tmod n (len : Int) = n % (len : Int) := Int.tmod_eq_emod_of_nonneg h0
      have hqa : 0 ≤ n / (len : Int) := Int.ediv_nonneg h0 (by omega)
      have hqb : n / (len : Int) ≤ n := Int.ediv_le_self _ h0
      have hra : 0 ≤ n % (len : Int) := Int.emod_nonneg _ (by omega)
      have hrb : n % (len : Int) < (len : Int) := Int.emod_lt_of_pos _ (by omega)
      obtain ⟨q, hq⟩ : ∃ q : Int, n / (len : Int) = q := ⟨_, rfl⟩
      rw [hq] at hqa hqb
      have hqc : q < 72057594037927936 := by omega
      obtain ⟨k, hk⟩ : ∃ k : Nat, n % (len : Int) = (k : Int) := ⟨(n % (len : Int)).toNat, by omega⟩
      have hkl : k < len := by omega
      obtain ⟨x, hx⟩ : ∃ x, l[k]? = some x := ⟨_, List.getElem?_eq_getElem (by rw [hl]; exact hkl)⟩
      obtain ⟨x0, x57⟩ := hbd x (List.mem_of_getElem? hx)
      have hput : putR l n = l.set k (max x (57 - ((Lib.bitLen q.toNat : Nat) : Int))) := by
        unfold putR noughtsR
        rw [hl, hk, hq]
        simp only [Int.toNat_natCast]
        rw [List.getD_eq_getElem?_getD, hx]; rfl
      rw [hput]
      have HL64 := Lib.hid (fun W => bits_Len64 q W (by omega) (by omega))
      have hbl := len_most (x := q.toNat) (by omega)
      rw [hq] at hq0
      rw [hk] at hr0
      have hw1 : IntKind.u64.wrap q = q := by rw [IntKind.wrap_u64]; omega
      have HW1 := Lib.hid hw1
      have HX := Lib.hid hx
      have HK := Lib.hid (clone_ints a len cap l)
      have HT := Lib.hid h
      have HLE := Lib.hid hl
      have hbig : len * 8 ≤ 140737488355328 := by omega
      have hln : ((len : Int) == 0) = false := by simp; omega
      have hln1 : ¬ ((len : Int) = 0) := by omega
      have hln2 : ¬ ((len : Int) = -1) := by omega
      have hkn : ¬ ((k : Int) < 0) := by omega
      have t1 : decide (n < 0) = false := decide_eq_false (by omega)
      have t2 : decide (n ≥ 72057594037927936) = false := decide_eq_false (by omega)
      obtain ⟨B, hB⟩ : ∃ B, Lib.bitLen q.toNat = B := ⟨_, rfl⟩
      have HL2 : Hid (∀ W, Calls Try.prog 67 #[.int .u64 q] W fun e w' => e = .returned (.int .i64 (B : Int)) ∧ w' = W) := Lib.hid (fun W => by
        have := HL64.out W
        rw [hB] at this
        exact this)
      rw [hB] at hbl ⊢
      obtain ⟨z, hz⟩ : ∃ z, max x (57 - (B : Int)) = z := ⟨_, rfl⟩
      rw [hz]
      have HWM : Hid (max x (IntKind.i64.wrap (57 - (B : Int))) = z) := Lib.hid (by rw [← hz, IntKind.wrap_i64]; omega)
      clear hz hE hn e1 e2 h hl hbd hlr hq hk hqb hra hrb hput hx hw1 HL64 hB
      go_enter Try.func37, Try.ntmps37
      go_wp2_with fail
      refine HC.out.mono ?_
      rintro e w1 ⟨rfl, hb⟩
      have HB := Lib.hid hb
      have HK1 := Lib.hid (HK.out w1 (HT.out.below hb) hbig)
      clear hb HC HK HT
      go_wp2_with fail
      refine HK1.out.mono ?_
      rintro e w2 ⟨v, rfl, hO, hb⟩
      obtain ⟨g, c, rfl⟩ := own_block hO (by rw [HLE.out]; omega)
      rw [HLE.out] at hO ⊢
      have HB2 := Lib.hid (below_on HB.out hb)
      have HO := Lib.hid hO
      have hwb := HB.out.size
      obtain ⟨c0, c1, hg1, hg2⟩ := hO.at1 (map_get HX.out)
      clear hb hO HK1
      go_wp2_with fail
      go_region
      go_wp2_with fail
      go_region_with (first | (go_at_call 67; (try rw [HW1.out]); refine (HL2.out _).mono ?_; rintro e w5 ⟨rfl, rfl⟩))
      all_goals
        try simp only [HWM.out]
        go_wp2_with fail
        go_ret2
        refine ⟨_, rfl, ?_, ?_⟩
        · have hs := HO.out.set1 (map_get HX.out) (.int .i64 z)
          rw [← show iC z = [Value.int .i64 z] from rfl, ← List.map_set] at hs
          exact hs.drew.drew.base_le hwb
        · exact (HB2.out.setCell (p := ⟨g, k, none⟩) (Nat.le_trans hwb hg1) (.int .i64 z)).drew.drew
  · have e1 : putE l n = regE l := by unfold putE; rw [if_pos hE]
    have e2 : putL l n = [] := by unfold putL; rw [if_neg (by omega)]
    rw [e1, e2]
    have t : (regE l != 0) = true := by simpa using hE
    clear e1 e2 hE h hl
    generalize regE l = E at *
    go_enter Try.func37, Try.ntmps37
    go_wp2_with fail
    refine HC.out.mono ?_
    rintro e w1 ⟨rfl, hb⟩
    have HB := Lib.hid hb
    clear hb
    go_wp2
    go_ret2
    exact ⟨_, rfl, Own.nil _ _ _ _, HB.out⟩
end Go.Proofs.Ytffgoekdjcempab
