/- The contract of the program's table.Put. -/
import Derived.Test.YtcfejbhoeichnaaTabCopy
namespace Go.Proofs.Ytcfejbhoeichnaa
open Go.ChangeShapes Go.WideShapes Go.ChangeAt Go.RowKit
open Tbl

namespace Tbl
theorem zero_two {w : World} {b : Nat} {t : TypeId} (h : w.heap[b]? = some (.cells #[.int .i64 0, .slice none 0 0] t (0, 0))) (x : Int) (v : Value) :
    ((w.setCell ⟨b, 0, none⟩ (.int .i64 x)).setCell ⟨b, 1, none⟩ v).cell? ⟨b, 0, none⟩ = some (.int .i64 x) ∧ ((w.setCell ⟨b, 0, none⟩ (.int .i64 x)).setCell ⟨b, 1, none⟩ v).cell? ⟨b, 1, none⟩ = some v := (two_cells (two_set (x' := x) (v' := v) h)).1
theorem below_two {w0 w : World} (h : Below w0.heap.size w0 w) {b : Nat} (hb : w0.heap.size ≤ b) (x v : Value) : Below w0.heap.size w0 ((w.setCell ⟨b, 0, none⟩ x).setCell ⟨b, 1, none⟩ v) :=
  (h.setCell (p := ⟨b, 0, none⟩) hb x).setCell (p := ⟨b, 1, none⟩) hb v
theorem list_at {α : Type} {l : List α} {k : Nat} {p : α} (h : l[k]? = some p) : l = l.take k ++ p :: l.drop (k + 1) := by
  have hk := (List.getElem?_eq_some_iff.1 h).1
  rw [← (List.getElem?_eq_some_iff.1 h).2, ← List.drop_eq_getElem_cons hk, List.take_append_drop]
theorem boxes_new (w : World) (o p : Obj) : ((w.alloc o).alloc p).heap[w.heap.size]? = (w.alloc o).heap[w.heap.size]? := Below.heap_alloc _ _ _ (by simp)
theorem boxes_snd (w : World) (o p : Obj) : ((w.alloc o).alloc p).heap[w.heap.size + 1]? = ((w.alloc o).alloc p).heap[(w.alloc o).heap.size]? := by simp
end Tbl

set_option maxRecDepth 100000 in
set_option maxHeartbeats 2000000 in
theorem tput_bad (W : Int) (x n : Int) (a : Option Addr) (len cap : Nat) (R : List (List Int)) (P : Nat → Prop) (w : World) (hT : TTx w P a len cap R) (hE : tabE W R ≠ 0) :
    Calls Try.prog 17 #[.agg #[.int .i64 W, .slice a len cap], .int .i64 x, .int .i64 n] w fun e w' => e = .returned (.tuple #[.agg #[.int .i64 0, .slice none 0 0], .int .i64 (tabE W R)]) ∧ Below w.heap.size w w' := by
  have hb0 : Below w.heap.size w ((w.alloc (.cells #[.int .i64 W, .slice a len cap] 39)).alloc (.cells #[.int .i64 0, .slice none 0 0] 39)) := ((Below.refl _ _).alloc (Nat.le_refl _) _).alloc (by simp) _
  have k1 : ((w.alloc (.cells #[.int .i64 W, .slice a len cap] 39)).alloc (.cells #[.int .i64 0, .slice none 0 0] 39)).heap[w.heap.size]? = some (.cells #[.int .i64 W, .slice a len cap] 39 (0, 0)) := (boxes_new _ _ _).trans (MapKept.heap_alloc w _).1
  have k2 : ((w.alloc (.cells #[.int .i64 W, .slice a len cap] 39)).alloc (.cells #[.int .i64 0, .slice none 0 0] 39)).heap[w.heap.size + 1]? = some (.cells #[.int .i64 0, .slice none 0 0] 39 (0, 0)) := (boxes_snd _ _ _).trans (MapKept.heap_alloc _ _).1
  obtain ⟨v0, hv0⟩ : ∃ v, (w.alloc (.cells #[.int .i64 W, .slice a len cap] 39)).alloc (.cells #[.int .i64 0, .slice none 0 0] 39) = v := ⟨_, rfl⟩
  rw [hv0] at hb0 k1 k2
  have HC := Lib.hid (tcheck_any W a len cap R P v0 (hT.below hb0))
  have t : (tabE W R != 0) = true := by simpa using hE
  clear hE
  generalize tabE W R = E at *
  have HV := Lib.hid hv0
  have HB0 := Lib.hid hb0
  have K1 := Lib.hid k1
  have K2 := Lib.hid k2
  clear hT hv0 hb0 k1 k2
  go_enter Try.func17, Try.ntmps17
  go_upto_region 1 with fail
  rw [HV.out]
  obtain ⟨X, hX⟩ : ∃ X, w.heap.size = X := ⟨_, rfl⟩
  rw [hX] at K1 K2 ⊢
  have HX := Lib.hid hX
  clear HV hX
  obtain ⟨⟨a0, a1⟩, _⟩ := two_cells K1.out
  go_wp2_with fail
  clear a0 a1
  refine HC.out.mono ?_
  rintro e w1 ⟨rfl, hb1⟩
  replace K2 := Lib.hid (kept hb1 K2.out)
  have hz := zero_two K2.out 0 (.slice none 0 0)
  have hbz := below_two (below_on HB0.out hb1) (b := X + 1) (by rw [← HX.out]; omega) (.int .i64 0) (.slice none 0 0)
  obtain ⟨⟨c0, c1⟩, f0, f1⟩ := two_cells K2.out
  clear hb1 HC HB0
  go_wp2_with fail
  obtain ⟨z0, z1⟩ := hz
  generalize ((w1.setCell { block := X + 1, off := 0 } (Value.int IntKind.i64 0)).setCell { block := X + 1, off := 1 } (Value.slice none 0 0)) = w3 at *
  clear c0 c1 f0 f1
  try simp only [Exit.inBlock, Exit.then]
  refine bodyPost_ret (by simp [results, Try.results17, go_sem, z0, z1, Result.andThen]; try rfl) rfl ?_
  exact ⟨rfl, hbz⟩

set_option maxRecDepth 100000 in
set_option maxHeartbeats 2000000 in
theorem tput_arg (s : Nat) (x n : Int) (a : Option Addr) (len cap : Nat) (R : List (List Int)) (P : Nat → Prop) (w : World) (hT : TTx w P a len cap R) (hE : tabE s R = 0) (hn : outB n = true) :
    Calls Try.prog 17 #[.agg #[.int .i64 s, .slice a len cap], .int .i64 x, .int .i64 n] w fun e w' => e = .returned (.tuple #[.agg #[.int .i64 0, .slice none 0 0], .int .i64 1]) ∧ Below w.heap.size w w' := by
  have hb0 : Below w.heap.size w ((w.alloc (.cells #[.int .i64 s, .slice a len cap] 39)).alloc (.cells #[.int .i64 0, .slice none 0 0] 39)) := ((Below.refl _ _).alloc (Nat.le_refl _) _).alloc (by simp) _
  have k1 : ((w.alloc (.cells #[.int .i64 s, .slice a len cap] 39)).alloc (.cells #[.int .i64 0, .slice none 0 0] 39)).heap[w.heap.size]? = some (.cells #[.int .i64 s, .slice a len cap] 39 (0, 0)) := (boxes_new _ _ _).trans (MapKept.heap_alloc w _).1
  have k2 : ((w.alloc (.cells #[.int .i64 s, .slice a len cap] 39)).alloc (.cells #[.int .i64 0, .slice none 0 0] 39)).heap[w.heap.size + 1]? = some (.cells #[.int .i64 0, .slice none 0 0] 39 (0, 0)) := (boxes_snd _ _ _).trans (MapKept.heap_alloc _ _).1
  obtain ⟨v0, hv0⟩ : ∃ v, (w.alloc (.cells #[.int .i64 s, .slice a len cap] 39)).alloc (.cells #[.int .i64 0, .slice none 0 0] 39) = v := ⟨_, rfl⟩
  rw [hv0] at hb0 k1 k2
  have hC := tcheck_any s a len cap R P v0 (hT.below hb0)
  rw [hE] at hC
  have HC := Lib.hid hC
  have hO := fun W => isOutside_any n W
  rw [hn] at hO
  have HO := Lib.hid hO
  have HV := Lib.hid hv0
  have HB0 := Lib.hid hb0
  have K1 := Lib.hid k1
  have K2 := Lib.hid k2
  clear hT hv0 hb0 k1 k2 hC hE hO hn
  go_enter Try.func17, Try.ntmps17
  go_upto_region 1 with fail
  rw [HV.out]
  obtain ⟨X, hX⟩ : ∃ X, w.heap.size = X := ⟨_, rfl⟩
  rw [hX] at K1 K2 ⊢
  have HX := Lib.hid hX
  clear HV hX
  obtain ⟨⟨a0, a1⟩, _⟩ := two_cells K1.out
  go_wp2_with fail
  clear a0 a1
  refine HC.out.mono ?_
  rintro e w1 ⟨rfl, hb1⟩
  replace K2 := Lib.hid (kept hb1 K2.out)
  have HB1 := Lib.hid (below_on HB0.out hb1)
  clear hb1 HC HB0
  go_wp2_with fail
  refine (HO.out _).mono ?_
  rintro e w2 ⟨rfl, hw2⟩
  rw [hw2]
  clear hw2 HO
  have hz := zero_two K2.out 0 (.slice none 0 0)
  have hbz := below_two HB1.out (b := X + 1) (by rw [← HX.out]; omega) (.int .i64 0) (.slice none 0 0)
  obtain ⟨⟨c0, c1⟩, f0, f1⟩ := two_cells K2.out
  go_wp2_with fail
  obtain ⟨z0, z1⟩ := hz
  generalize ((w1.setCell { block := X + 1, off := 0 } (Value.int IntKind.i64 0)).setCell { block := X + 1, off := 1 } (Value.slice none 0 0)) = w3 at *
  clear c0 c1 f0 f1
  try simp only [Exit.inBlock, Exit.then]
  refine bodyPost_ret (by simp [results, Try.results17, go_sem, z0, z1, Result.andThen]; try rfl) rfl ?_
  exact ⟨rfl, hbz⟩

set_option maxRecDepth 100000 in
set_option maxHeartbeats 4000000 in
theorem tput_ok (s : Nat) (x n : Int) (a : Option Addr) (len cap : Nat) (R : List (List Int)) (P : Nat → Prop) (w : World) (hT : TTx w P a len cap R) (hG : GoodT s R) (hn1 : 0 ≤ n) (hn2 : n ≤ 1000000000000) :
    Calls Try.prog 17 #[.agg #[.int .i64 s, .slice a len cap], .int .i64 x, .int .i64 n] w fun e w' => ∃ (S : Int) (a' : Option Addr) (l' c' : Nat) (R' : List (List Int)), e = .returned (.tuple #[.agg #[.int .i64 S, .slice a' l' c'], .int .i64 (tooE (putR s x n R))]) ∧ (tooE (putR s x n R) = 0 ∧ S = s ∧ R' = putR s x n R ∨ tooE (putR s x n R) ≠ 0 ∧ S = 0 ∧ R' = []) ∧ TTx w' (fun b => w.heap.size ≤ b) a' l' c' R' ∧ Below w.heap.size w w' := by
  have hb0 : Below w.heap.size w ((w.alloc (.cells #[.int .i64 s, .slice a len cap] 39)).alloc (.cells #[.int .i64 0, .slice none 0 0] 39)) := ((Below.refl _ _).alloc (Nat.le_refl _) _).alloc (by simp) _
  have k1 : ((w.alloc (.cells #[.int .i64 s, .slice a len cap] 39)).alloc (.cells #[.int .i64 0, .slice none 0 0] 39)).heap[w.heap.size]? = some (.cells #[.int .i64 s, .slice a len cap] 39 (0, 0)) := (boxes_new _ _ _).trans (MapKept.heap_alloc w _).1
  have k2 : ((w.alloc (.cells #[.int .i64 s, .slice a len cap] 39)).alloc (.cells #[.int .i64 0, .slice none 0 0] 39)).heap[w.heap.size + 1]? = some (.cells #[.int .i64 0, .slice none 0 0] 39 (0, 0)) := (boxes_snd _ _ _).trans (MapKept.heap_alloc _ _).1
  obtain ⟨v0, hv0⟩ : ∃ v, (w.alloc (.cells #[.int .i64 s, .slice a len cap] 39)).alloc (.cells #[.int .i64 0, .slice none 0 0] 39) = v := ⟨_, rfl⟩
  rw [hv0] at hb0 k1 k2
  have hC := tcheck_any s a len cap R P v0 (hT.below hb0)
  rw [tabE_ok hG] at hC
  have HC := Lib.hid hC
  have hO := fun W => isOutside_any n W
  rw [outB_in hn1 hn2] at hO
  have HO := Lib.hid hO
  have HO2 := Lib.hid (fun m W => isOutside_any m W)
  obtain ⟨E, hEE⟩ : ∃ E, tooE (putR s x n R) = E := ⟨_, rfl⟩
  rw [hEE]
  have HEE := Lib.hid hEE
  have hl := hT.len
  have h1 : 1 ≤ len := by rw [← hl]; exact hG.n1
  have h4 : len ≤ 4 := by rw [← hl]; exact hG.n2
  have HCp := Lib.hid (fun W (h : TTx W P a len cap R) => copyRows_any a len cap R P W h h1 h4 (fun r hr => by rw [hG.len r hr]; exact hG.s2))
  have HCl := Lib.hid (fun (i : Nat) (hi : i ≤ 4) W => column_any s (.slice a len cap) x i hG.s1 hG.s2 hi a len cap rfl W)
  have HG := Lib.hid hG
  have HL := Lib.hid hl
  have HTT := Lib.hid (hT.below hb0)
  have HV := Lib.hid hv0
  have HB0 := Lib.hid hb0
  have K1 := Lib.hid k1
  have K2 := Lib.hid k2
  clear hT hv0 hb0 k1 k2 hC hO hl hG hEE
  go_enter Try.func17, Try.ntmps17
  go_upto_region 1 with fail
  rw [HV.out]
  obtain ⟨X, hX⟩ : ∃ X, w.heap.size = X := ⟨_, rfl⟩
  rw [hX] at K1 K2 ⊢
  have HX := Lib.hid hX
  clear HV hX
  obtain ⟨⟨a0, a1⟩, _⟩ := two_cells K1.out
  go_wp2_with fail
  clear a0 a1
  refine HC.out.mono ?_
  rintro e w1 ⟨rfl, hb1⟩
  replace K1 := Lib.hid (kept hb1 K1.out)
  replace K2 := Lib.hid (kept hb1 K2.out)
  replace HTT := Lib.hid (HTT.out.below hb1)
  have HB1 := Lib.hid (below_on HB0.out hb1)
  clear hb1 HC HB0
  go_wp2_with fail
  refine (HO.out _).mono ?_
  rintro e w2 ⟨rfl, hw2⟩
  rw [hw2]
  clear hw2 HO
  obtain ⟨⟨a0, a1⟩, _⟩ := two_cells K1.out
  go_wp2_with fail
  clear a0 a1
  refine (HCp.out _ HTT.out).mono ?_
  rintro e w3 ⟨g0, c0, l0, rfl, hGr, hlR, hb3⟩
  have hXs : X + 1 < w1.heap.size := (Array.getElem?_eq_some_iff.1 K2.out).1
  replace K1 := Lib.hid (kept hb3 K1.out)
  replace K2 := Lib.hid (kept hb3 K2.out)
  have HB3 := Lib.hid (below_on HB1.out hb3)
  have HGr := Lib.hid hGr
  have HlR := Lib.hid hlR
  have HW1 := Lib.hid HB1.out.size
  obtain ⟨B, hB⟩ : ∃ B, w1.heap.size = B := ⟨_, rfl⟩
  rw [hB] at HGr hXs HW1
  have HXB := Lib.hid hXs
  clear hGr hlR hb3 HB1 HCp HTT hXs hB
  go_wp2_with fail
  go_loopg [27] len (fun g i wr => ∃ (k : Nat) (l : List (Value × List Int)), k + g = len ∧ i = .int .i64 k ∧ Hid (l.map (fun p => p.2) = putTo s x n R k) ∧ Hid (∀ j, j < k → ∀ r, R[j]? = some r → ∀ y, r[colN s x j]? = some y → y + n ≤ 1000000000000) ∧ Hid (Grid wr B (.slice (some ⟨g0, 0, none⟩) len c0) l) ∧ Hid (wr.heap[X]? = some (.cells #[.int .i64 s, .slice a len cap] 39 (0, 0))) ∧ Hid (wr.heap[X + 1]? = some (.cells #[.int .i64 0, .slice none 0 0] 39 (0, 0))) ∧ Hid (Below w.heap.size w wr))
  case atStart => exact ⟨0, l0, by omega, rfl, Lib.hid (by rw [putTo_zero]; exact HlR.out), Lib.hid (fun j hj => by omega), HGr, K1, K2, HB3⟩
  case round =>
    clear HlR HGr K1 K2 HB3
    obtain ⟨k, l, hk0, rfl, HLR, HN, HGr, K1, K2, HW⟩ := hrel
    have HJ := Lib.hid hk0
    have hk : k ≤ len := by omega
    clear hk0
    by_cases hlt : k < len
    · obtain ⟨r, hr⟩ : ∃ r, R[k]? = some r := ⟨_, List.getElem?_eq_getElem (by rw [HL.out]; exact hlt)⟩
      have hrm := List.mem_of_getElem? hr
      have hrl := HG.out.len r hrm
      obtain ⟨y, hy⟩ := at_some (x := x) (i := k) HG.out.s1 hrl
      have hyb := HG.out.cnt r hrm y (List.mem_of_getElem? hy)
      have hlk : (l.map (fun p => p.2))[k]? = some r := by
        rw [HLR.out, putTo_split hr, List.getElem?_append_right (by rw [List.length_take]; omega), List.length_take, putR_len, HL.out, show k - min k len = 0 from by omega]
        rfl
      obtain ⟨pr, hpr, hpr2⟩ : ∃ pr, l[k]? = some pr ∧ pr.2 = r := by
        rw [List.getElem?_map] at hlk
        cases h : l[k]? with
        | none => rw [h] at hlk; cases hlk
        | some pr => rw [h] at hlk; exact ⟨pr, rfl, by simpa using hlk⟩
      obtain ⟨d0, d1, _, _⟩ := HGr.out.at_ hpr
      obtain ⟨g, c, hp1, hgB, hgs, hOw⟩ := HGr.out.row hpr (by rw [hpr2, hrl]; exact HG.out.s1)
      rw [hpr2] at hp1 hOw
      have hll := list_at hpr
      have hprr : pr = (.slice (some ⟨g, 0, none⟩) r.length c, r) := by rw [← hp1, ← hpr2]
      rw [hprr] at hll
      rw [hp1] at d0
      have HOw := Lib.hid hOw
      have HLL := Lib.hid hll
      have HY := Lib.hid hy
      have HRK := Lib.hid hr
      have HPL := Lib.hid (show l.length = len from by have h := HGr.out.out.tab_of.hlen; rw [List.length_map] at h; exact h)
      have HRL := Lib.hid hrl
      have hcl := colN_lt (x := x) (i := k) HG.out.s1
      obtain ⟨p, hp⟩ : ∃ p, colN s x k = p := ⟨_, rfl⟩
      have HC2 := fun W => HCl.out k (by omega) W
      rw [hp] at HC2 hcl HY
      replace HC2 := Lib.hid HC2
      have HP := Lib.hid hp
      have hrl2 : p < r.length := by rw [hrl]; exact hcl
      have hrl3 : r.length ≤ 32 := by rw [hrl]; exact HG.out.s2
      obtain ⟨rl, hrlv⟩ : ∃ m, r.length = m := ⟨_, rfl⟩
      rw [hrlv] at d0 HOw HLL HRL hrl2 hrl3
      obtain ⟨⟨b0, b1⟩, _⟩ := two_cells K1.out
      have hgb : B ≤ g := hgB
      clear hr hrm hrl hy hlk hpr hpr2 hp1 hOw hll hprr hp hcl hrlv
      obtain ⟨wo, hwo⟩ : ∃ wo, wo = wr := ⟨_, rfl⟩
      subst hwo
      go_wp2_with fail
      refine (HC2.out _).mono ?_
      rintro e w5 ⟨rfl, hb5⟩
      have hO5 := HOw.out.below hb5
      obtain ⟨e0, e1, _, _⟩ := hO5.at1 (map_get HY.out)
      have hG5 := HGr.out.below hb5
      rw [HLL.out] at hG5
      have hG6 := hG5.set HY.out (y + n)
      have HG6 := Lib.hid hG6
      have HW6 := Lib.hid ((below_on HW.out hb5).setCell (p := ⟨g, p, none⟩) (Nat.le_trans HW1.out hgb) (.int .i64 (y + n)))
      have J1 := Lib.hid (blk_else (a := ⟨g, p, none⟩) (v := .int .i64 (y + n)) (kept hb5 K1.out) (by show X ≠ g; have := HXB.out; omega))
      have J2 := Lib.hid (blk_else (a := ⟨g, p, none⟩) (v := .int .i64 (y + n)) (kept hb5 K2.out) (by show X + 1 ≠ g; have := HXB.out; omega))
      have hq0 : (w5.setCell ⟨g, p, none⟩ (.int .i64 (y + n))).cell? ⟨g, p, none⟩ = some (.int .i64 (y + n)) := by
        have h := (hO5.set1 (map_get HY.out) (.int .i64 (y + n))).at1 (i := p) (u := .int .i64 (y + n)) (by rw [List.getElem?_set, if_pos rfl, if_pos (by rw [List.length_map]; exact (List.getElem?_eq_some_iff.1 HY.out).1)])
        exact h.1
      have hyl := hyb.1
      have hyh := hyb.2
      clear hb5 hO5 hG5 hG6 b0 b1 hyb
      by_cases hbig : y + n ≤ 1000000000000
      · have hof := fun W => HO2.out (y + n) W
        rw [outB_in (by omega) hbig] at hof
        have HOF := Lib.hid hof
        have HN2 : Hid (∀ j, j < k + 1 → ∀ r, R[j]? = some r → ∀ y, r[colN s x j]? = some y → y + n ≤ 1000000000000) := Lib.hid (fun j hj r' hr' y' hy' => by
          by_cases hjk : j = k
          · subst hjk
            rw [HRK.out, Option.some.injEq] at hr'
            subst hr'
            rw [HP.out, HY.out, Option.some.injEq] at hy'
            subst hy'
            exact hbig
          · exact HN.out j (by omega) r' hr' y' hy')
        clear hof hbig
        go_wp2_with fail
        refine (HOF.out _).mono ?_
        rintro e w7 ⟨rfl, hw7⟩
        rw [hw7]
        clear hw7 HOF
        go_wp2_with fail
        go_roundg (len - (k + 1))
        case measure => have := HJ.out; omega
        case rel =>
          refine ⟨k + 1, l.take k ++ (.slice (some ⟨g, 0, none⟩) rl c, r.set p (y + n)) :: l.drop (k + 1), by omega, by go_num, Lib.hid ?_, HN2, HG6, J1, J2, HW6⟩
          rw [List.map_append, List.map_cons, List.map_take, List.map_drop, HLR.out, putTo_succ HRK.out, HP.out, modify_is HY.out]
          have e1 : (putR s x n R).take k = (putTo s x n R k).take k := by
            unfold putTo
            rw [List.take_append_of_le_length (by rw [List.length_take, putR_len, HL.out]; omega), List.take_take, Nat.min_self]
          have e2 : (putTo s x n R k).drop (k + 1) = R.drop (k + 1) := by
            rw [putTo_split HRK.out, List.drop_append, List.length_take, putR_len, HL.out, show min k len = k from by omega, List.drop_of_length_le (by rw [List.length_take]; omega), show k + 1 - k = 1 from by omega]
            rfl
          rw [e2, ← e1]
      · have hof := fun W => HO2.out (y + n) W
        rw [outB_big (by omega)] at hof
        have HOF := Lib.hid hof
        obtain rfl : E = 2 := by
          rw [← HEE.out]
          rcases tooE_cases (putR s x n R) with h | h
          · exact h
          · have := (put_too hn1 HG.out).1 h k r HRK.out y (by rw [HP.out]; exact HY.out)
            omega
        have hz := zero_two J2.out 0 (.slice none 0 0)
        have hbz := below_two HW6.out (b := X + 1) (by rw [← HX.out]; omega) (.int .i64 0) (.slice none 0 0)
        obtain ⟨⟨z0, z1⟩, f0, f1⟩ := two_cells J2.out
        have HBZ := Lib.hid hbz
        have HZ := Lib.hid hz
        clear hof hbig hbz hz
        go_wp2_with fail
        refine (HOF.out _).mono ?_
        rintro e w7 ⟨rfl, hw7⟩
        rw [hw7]
        clear hw7 HOF
        go_wp2_with fail
        obtain ⟨y0, y1⟩ := HZ.out
        generalize (((w5.setCell { block := g, off := p } (Value.int IntKind.i64 (y + n))).setCell { block := X + 1, off := 0 } (Value.int IntKind.i64 0)).setCell { block := X + 1, off := 1 } (Value.slice none 0 0)) = w8 at *
        clear z0 z1 f0 f1 e0 e1 hq0
        try simp only [Exit.inBlock, Exit.then]
        refine bodyPost_ret (by simp [results, Try.results17, go_sem, y0, y1, Result.andThen]; try rfl) rfl ?_
        exact ⟨0, none, 0, 0, [], rfl, Or.inr ⟨by decide, rfl, rfl⟩, TTx.nil _ _, HBZ.out⟩
    · obtain rfl : k = len := by omega
      have hall : tooE (putR s x n R) = 0 := (put_too hn1 HG.out).2 (fun i r hr y hy => HN.out i (by have := (List.getElem?_eq_some_iff.1 hr).1; rw [HL.out] at this; exact this) r hr y hy)
      have hgz := (HGr.out.setCell (a := ⟨X + 1, 0, none⟩) HXB.out (.int .i64 s)).setCell (a := ⟨X + 1, 1, none⟩) HXB.out (.slice (some ⟨g0, 0, none⟩) k c0)
      have hll : l.length = k := by have h := HGr.out.out.tab_of.hlen; rw [List.length_map] at h; exact h
      obtain ⟨a', c', hav, htt⟩ := hgz.tt
      simp only [Value.slice.injEq] at hav
      obtain ⟨rfl, h2, rfl⟩ := hav
      rw [hll, HLR.out, ← HL.out, putTo_all] at htt
      have HTT := Lib.hid (htt.weak (Q := fun b => w.heap.size ≤ b) (fun b hb => Nat.le_trans HW1.out hb))
      rw [HL.out] at HTT
      obtain rfl : E = 0 := by rw [← HEE.out]; exact hall
      have hz := zero_two K2.out s (.slice (some ⟨g0, 0, none⟩) k c0)
      have hbz := below_two HW.out (b := X + 1) (by rw [← HX.out]; omega) (.int .i64 s) (.slice (some ⟨g0, 0, none⟩) k c0)
      obtain ⟨⟨z0, z1⟩, f0, f1⟩ := two_cells K2.out
      obtain ⟨⟨b0, b1⟩, _⟩ := two_cells K1.out
      have HBZ := Lib.hid hbz
      have HZ := Lib.hid hz
      clear hbz hz htt h2 hll hgz hall
      go_wp2_with fail
      obtain ⟨y0, y1⟩ := HZ.out
      generalize ((wr.setCell { block := X + 1, off := 0 } (Value.int IntKind.i64 s)).setCell { block := X + 1, off := 1 } (Value.slice (some { block := g0, off := 0 }) k c0)) = w8 at *
      clear z0 z1 f0 f1 b0 b1
      try simp only [Exit.inBlock, Exit.then]
      refine bodyPost_ret (by simp [results, Try.results17, go_sem, y0, y1, Result.andThen]; try rfl) rfl ?_
      exact ⟨s, _, k, c0, rfl, _, ⟨rfl, rfl⟩, HTT.out, HBZ.out⟩
end Go.Proofs.Ytcfejbhoeichnaa
