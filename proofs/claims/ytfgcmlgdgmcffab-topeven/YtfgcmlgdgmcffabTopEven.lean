/-
  'Rows.TopEvenSaid' is proved: over all starts a systematic sample picks each index in proportion to its weight, and each sample has k picks. No condition.
-/
import Derived.Test.YtfgcmlgdgmcffabRows
import Derived.Test.YtfgcmlgdgmcffabShapes
import Derived.Test.YtfgcmlgdgmcffabEvenGot
import Derived.Test.YtfgcmlgdgmcffabTopSum
import Derived.Test.YtfgcmlgdgmcffabCumEven
import Derived.Test.YtfgcmlgdgmcffabDigitOrder
import Derived.Test.YtfgcmlgdgmcffabRepeatOne
import Derived.Test.YtfgcmlgdgmcffabEqualInts
import Derived.Test.YtfgcmlgdgmcffabLit
import Derived.Test.YtfgcmlgdgmcffabSubSlice
import Derived.Deep.DeepCutAuto
import Derived.Deep.LoopGhost
import Derived.BigQuiet
import Derived.Deep.QuietTactic
import Derived.WalkKit
import Derived.ProofKit
import Derived.OpenShut
import Derived.ShutString
import Derived.ChangeOld
import Derived.Below
namespace Go.Proofs.Ytfgcmlgdgmcffab.topEven
open Go.ChangeShapes Go.WideShapes Go.ChangeAt Go.RowKit
open Go.ChangeMaps (open_string shut_string)
set_option linter.unusedVariables false

theorem own : ownKnob Try.prog.godebug = none := by kernel_rfl
theorem laidOut : laidOutB Try.prog = true := by kernel_rfl

open Cum Got Rep
theorem o21 : Digit.orderOf 2 1 = [1, 0] := by decide
set_option maxHeartbeats 1000000 in
theorem begun_any (w : World) : Calls Try.prog 5 #[] w fun e w' => e = .returned (.bool true) ∧ Below w.heap.size w w' := by
  have C0 := order_ok 2 1 (by decide) (by decide) w
  rw [o21] at C0
  have C0 := Lib.hid C0
  go_enter Try.func5, Try.ntmps5
  go_wp2_with fail
  refine C0.out.mono ?_
  rintro e v1 ⟨s1, rfl, hO1, hb1⟩
  obtain ⟨q1, cap1, rfl, hT1⟩ := hO1.tab
  have E1 := Lib.hid (equal_ints q1 (some ⟨v1.heap.size, 0, none⟩) 2 cap1 2 2 [1, 0] [1, 0] (v1.alloc (.cells #[.int .i64 1, .int .i64 0] 3)) (hT1.below ((Below.refl _ _).alloc (Nat.le_refl _) _)) (tab_lit v1 3 1 2 ([(1 : Int), 0].map iC) #[.int .i64 1, .int .i64 0] rfl rfl (rows_of iC_len _) (by decide) _ rfl) true (by simp))
  have HB1 := Lib.hid (hb1.alloc hb1.size (.cells #[.int .i64 1, .int .i64 0] 3))
  clear hb1 hO1 hT1 C0
  go_wp2_with fail
  refine E1.out.mono ?_
  rintro e v2 ⟨rfl, hb2⟩
  go_wp2
  go_ret
  exact ⟨rfl, below_on HB1.out hb2⟩
theorem prod_bd {k x A : Int} (k0 : 1 ≤ k) (k1 : k ≤ 9) (x0 : 1 ≤ x) (x1 : x ≤ 9) (a0 : 0 ≤ A) (a1 : A ≤ 63) : 0 ≤ k * x ∧ k * x ≤ 81 ∧ 0 ≤ k * x * A ∧ k * x * A ≤ 5103 := by
  have h0 : 0 ≤ k * x := Int.mul_nonneg (by omega) (by omega)
  have h1 : k * x ≤ 9 * x := Int.mul_le_mul_of_nonneg_right k1 (by omega)
  have h2 : k * x ≤ 81 := by omega
  have h3 : k * x * A ≤ 81 * A := Int.mul_le_mul_of_nonneg_right h2 a0
  exact ⟨h0, h2, Int.mul_nonneg h0 a0, by omega⟩

set_option maxRecDepth 100000 in
set_option maxHeartbeats 2000000 in
theorem walk (x0 : Sl Int) (x1 : Int) (w : World) (t0 : Tab w x0.a x0.len x0.cap 1 (x0.l.map iC)) (b0 : x0.len * 8 ≤ 140737488351232) (o0 : ∀ z ∈ x0.l, wfI z) (w1 : (Lit.int .i64 x1).wf = true) :
    Calls Try.prog 4 #[.slice x0.a x0.len x0.cap, .int .i64 x1] w fun e w' => e = .returned (.bool true) ∧ Below w.heap.size w w' := by
  obtain ⟨a, len, cap, L0⟩ := x0
  have hm := t0.hmax
  have hle := t0.hle
  unfold maxLen at hm
  have hL := t0.hlen
  rw [List.length_map] at hL
  have hL' : L0.length = len := hL
  have HT := Lib.hid t0
  have HO := Lib.hid o0
  have HL := Lib.hid hL'
  have b1 := wf_i64 w1
  have d1 := withI_bd x1 9 (by omega)
  have HW1 := Lib.hid (fun W => within_int x1 9 W b1 (by omega) (by omega))
  generalize withI x1 9 = K0 at *
  obtain ⟨k, hk⟩ := Int.eq_ofNat_of_zero_le (show 0 ≤ 1 + K0 by omega)
  have hk1 : 1 ≤ k := by omega
  have hk2 : k ≤ 9 := by omega
  have hK0 := d1.1
  have hK1 := d1.2
  have HK := Lib.hid hk
  clear t0 b0 o0 w1 hL hL' d1 hk b1
  go_enter Try.func4, Try.ntmps4
  go_wp2_with fail
  refine (begun_any _).mono ?_
  rintro e v1 ⟨rfl, hb1⟩
  have HB1 := Lib.hid hb1
  clear hb1
  obtain ⟨n, hn⟩ : ∃ n, min len 6 = n := ⟨_, rfl⟩
  have hn1 : n ≤ len := by omega
  have hn2 : n ≤ 6 := by omega
  have rU := run_upto 26 3 1 Try.underlying26 elem_int5 size_int5 a len cap n (by omega)
  have hO1 : Own (v1.alloc (.cells #[.int .i64 1] 3)) v1.heap.size 3 1 (.slice (some ⟨v1.heap.size, 0, none⟩) 1 1) ((nine (L0.take 0)).map iC) :=
    Own.full (World.ownsRow_lit v1 #[.int .i64 1] 1 (Nat.le_refl _) (by decide) rfl) (by refine ⟨rfl, rfl, ?_⟩; intro r hr; simp [nine, iC] at hr; subst hr; rfl)
  have HO1 := Lib.hid hO1
  have HB1' : Hid (Below v1.heap.size v1 (v1.alloc (.cells #[.int .i64 1] 3))) := Lib.hid ((Below.refl _ _).alloc (Nat.le_refl _) _)
  clear hO1
  go_upto_region 4 with fail
  go_cut [23, 24, 25] (fun s t i wx => s = .slice a n cap ∧ t = .int .i64 n ∧ i = .int .i64 0 ∧ wx = v1.alloc (.cells #[.int .i64 1] 3))
  case first =>
    by_cases h9 : len ≤ 6
    · obtain rfl : n = len := by omega
      clear hn
      go_wp2_with fail
      go_meet
      case rel => exact ⟨congrArg (fun t => Value.slice a t cap) (by omega), congrArg (Value.int IntKind.i64) (by omega), rfl, rfl⟩
    · obtain rfl : n = 6 := by omega
      have h9' : 6 < len := by omega
      clear hn h9
      go_wp2_with fail
      go_meet
      case rel => exact ⟨congrArg (fun t => Value.slice a t cap) (by omega), congrArg (Value.int IntKind.i64) (by omega), rfl, rfl⟩
  case rest =>
  obtain ⟨rfl, rfl, rfl, rfl⟩ := hcut
  clear rU hn
  go_wp2_with fail
  go_loopg [5, 25] n (fun g v i wr => ∃ k : Nat, k + g = n ∧ i = .int .i64 k ∧ Hid (Own wr v1.heap.size 3 1 v ((nine (L0.take k)).map iC)) ∧ Hid (Below v1.heap.size v1 wr))
  case atStart => exact ⟨0, by omega, rfl, HO1, HB1'⟩
  case round =>
    clear HO1 HB1'
    obtain ⟨j, hk0, rfl, HV, HB⟩ := hrel
    have HJ := Lib.hid hk0
    have hk : j ≤ n := by omega
    clear hk0
    by_cases hlt : j < n
    · obtain ⟨x, hx⟩ : ∃ x, L0[j]? = some x := ⟨_, List.getElem?_eq_getElem (by rw [HL.out]; omega)⟩
      obtain ⟨b1, o1, ha, hbs, c0⟩ := HT.out.one (below_on HB1.out HB.out) (map_get hx)
      have hwx := wf_i64 (HO.out x (List.mem_of_getElem? hx))
      have HW := Lib.hid (fun w => within_int x 9 w hwx (by omega) (by omega))
      have hyb := withI_bd x 9 (by omega)
      have HN := nine_take hx
      have HN := Lib.hid HN
      have HVL : Hid (((nine (L0.take j)).map iC).length ≤ 40) := Lib.hid (by rw [List.length_map, nine_len, List.length_take]; omega)
      subst ha
      clear hx hwx
      generalize withI x 9 = y at *
      obtain ⟨y0, y1⟩ := hyb
      go_wp2_with fail
      refine (HW.out _).mono ?_
      rintro e w2 ⟨rfl, rfl⟩
      go_wp2_with (at_builtin; refine wpList_append_rows _ rfl _ _ 26 rfl v1.heap.size 3 _ 1 8 Try.underlying26 info_int rfl (by decide) _ ((nine (L0.take j)).map iC) rfl (HV.out.alloc _) ⟨wr.heap.size, 0, none⟩ 1 1 [iC (1 + y)] rfl rfl (by simp [iC]) (one_row wr (iC (1 + y)) 3 _ rfl) (by simp [iC, Value.oneCell']) (by have := HVL.out; omega) (by decide) (Nat.le_trans HB.out.size (by simp)) ?_; intro v6 w6 hO6 hg6)
      go_roundg (n - (j + 1))
      case measure => have := HJ.out; omega
      case rel =>
        refine ⟨j + 1, by omega, by go_num, ?_, ?_⟩
        · rw [HN.out, List.map_append]; exact Lib.hid hO6
        · exact Lib.hid ((HV.out.alloc _).under (HB.out.alloc HB.out.size _) (Nat.le_refl _) (Nat.le_trans HB.out.size (by simp)) hg6)
    · obtain rfl : j = n := by omega
      obtain ⟨q, capq, rfl, hTq⟩ := HV.out.tab
      have HWL : Hid ((nine (L0.take j)).length = j + 1) := Lib.hid (by rw [nine_len, List.length_take, HL.out]; omega)
      have HWE : Hid (weightsE (nine (L0.take j)) = 0) := Lib.hid (nine_ok (l := L0.take j) (by rw [List.length_take]; omega))
      have HWB := Lib.hid (nine_bd (l := L0.take j))
      have HPS := Lib.hid (nine_pos (L0.take j))
      generalize nine (L0.take j) = WL at *
      rw [List.length_map, HWL.out] at hTq ⊢
      obtain ⟨nn, hnn⟩ : ∃ nn, j + 1 = nn := ⟨_, rfl⟩
      rw [hnn] at hTq HWL ⊢
      have hnn7 : nn ≤ 7 := by omega
      have hnn1 : 1 ≤ nn := by omega
      have HWr := Lib.hid (below_on HB1.out HB.out)
      have hz : ∀ x ∈ WL, 0 ≤ x ∧ x ≤ 1000000000000 := fun x hx => by have := HWB.out x hx; omega
      have hz0 : ∀ x ∈ WL, 0 ≤ x := fun x hx => (hz x hx).1
      have bA := (sum_le9 WL HWB.out).2
      rw [HWL.out] at bA
      obtain ⟨PA, hPA⟩ := Int.eq_ofNat_of_zero_le (show 0 ≤ WL.sum by have := HPS.out; omega)
      have bA2 : PA ≤ 63 := by omega
      have bA1 : 1 ≤ PA := by have := HPS.out; omega
      have HTQ := Lib.hid hTq
      have HSM := Lib.hid (fun (W : World) (hW : Tab W q nn capq 1 (WL.map iC)) => topSum_any q nn capq WL W hW (by omega) hz)
      have HSK := Lib.hid (fun (b : Option Addr) (c : Nat) (M : List Int) (W : World) (hW : Tab W b nn c 1 (M.map iC)) (hM : ∀ y ∈ M, 0 ≤ y ∧ y ≤ (k : Int)) => topSum_any b nn c M W hW (by omega) (fun y hy => by have := hM y hy; omega))
      have HEV := Lib.hid (fun (t : Nat) (ht : (t : Int) < WL.sum) (W : World) (hT : Tab W q nn capq 1 (WL.map iC)) => even_ok q nn capq WL k t W hT HWE.out hk1 (by omega) (by omega) ht)
      have HES := Lib.hid (fun (t : Nat) (ht : (t : Int) < WL.sum) => evenL_sum (l := WL) (k := k) (s := (t : Int)) (by omega) ht)
      have HGS := Lib.hid (fun (t c : Nat) (y m : Int) (ht : (t : Int) < WL.sum) hy hm => gotL_set (l := WL) (k := k) (t := t) (c := c) (y := y) (m := m) hz0 ht hy hm)
      have HGB := Lib.hid (fun (i t : Nat) (hi : i < nn) (ht : (t : Int) ≤ WL.sum) => gotI_bd (l := WL) (k := k) hz0 (i := i) (by rw [HWL.out]; exact hi) t ht)
      have HGA := Lib.hid (fun (i : Nat) (x : Int) (hx : WL[i]? = some x) => gotI_all (k := k) (t := PA) hz0 hPA.symm (by omega) hx)
      have HEL := Lib.hid (fun s => evenL_len WL k s)
      have HG0 := Lib.hid (gotL_start (l := WL) (k := k))
      have HGN := Lib.hid (fun t => gotL_next (l := WL) (k := k) (t := t))
      have HGG := Lib.hid (fun t c i h => gotL_get (l := WL) (k := k) (t := t) (c := c) (i := i) h)
      rw [HWL.out] at HEL HG0 HGN HGG
      rw [hPA] at HSM HEV HGS HGB HES
      clear hTq HV HJ hk hlt hz hz0 bA hPA HB HT HO HL HPS hnn hn1 hn2 HWE
      go_wp2_with fail
      refine (HW1.out _).mono ?_
      rintro e w4 ⟨rfl, hw4⟩
      rw [← hw4]
      clear hw4 HW1
      go_upto_region 10 with fail
      rw [HK.out]
      go_wp2_with fail
      refine (HSM.out _ HTQ.out).mono ?_
      rintro e w5 ⟨rfl, hw5⟩
      rw [hw5]
      clear hw5
      have HT1 := tab_lit wr 3 1 1 ([(0 : Int)].map iC) #[.int .i64 0] rfl rfl (rows_of iC_len _) (by unfold maxLen; omega) _ rfl
      have CR := Lib.hid (repeat_one 0 (some ⟨wr.heap.size, 0, none⟩) 1 nn _ HT1 (by omega))
      have HBA : Hid (Below wr.heap.size wr (wr.alloc (.cells #[.int .i64 0] 3))) := Lib.hid ((Below.refl _ _).alloc (Nat.le_refl _) _)
      clear HT1
      go_wp2_with fail
      refine CR.out.mono ?_
      rintro e wc ⟨rfl, hO7, hb7⟩
      obtain ⟨wl, hwl⟩ : ∃ wl, wr.alloc (.cells #[.int .i64 0] 3) = wl := ⟨_, rfl⟩
      rw [hwl] at hO7 hb7 HBA ⊢
      have HBC := Lib.hid (below_on HWr.out HBA.out)
      have HTQ := Lib.hid (HTQ.out.below HBA.out)
      rw [← HG0.out] at hO7
      have HO7 := Lib.hid hO7
      have HB6 := Lib.hid hb7
      clear hO7 hb7 hwl CR HBA HWr
      go_wp2_with fail
      go_loopg [46] PA (fun g i wr => ∃ t : Nat, t + g = PA ∧ i = .int .i64 t ∧ Hid (Own wr wl.heap.size 3 1 (.slice (some ⟨wl.heap.size, 0, none⟩) nn nn) ((gotL WL k t 0).map iC)) ∧ Hid (Below wl.heap.size wl wr))
      case atStart => exact ⟨0, by omega, rfl, HO7, HB6⟩
      case round =>
        clear HO7 HB6
        obtain ⟨t, ht0, rfl, HS, HB⟩ := hrel
        have HJ := Lib.hid ht0
        have ht : t ≤ PA := by omega
        clear ht0
        obtain ⟨wo, hwo⟩ : ∃ wo, wo = wr := ⟨_, rfl⟩
        subst hwo
        by_cases hlt : t < PA
        · have C7 := Lib.hid (HEV.out t (by omega) wo (HTQ.out.below HB.out))
          have HE1 := Lib.hid (HEL.out (t : Int))
          have HE2 := Lib.hid (HES.out t (by omega))
          have HEB : Hid (∀ y ∈ evenL WL k (t : Int), 0 ≤ y ∧ y ≤ (k : Int)) := Lib.hid (fun y hy => tally_mem hy)
          have HGS1 := Lib.hid (fun (c : Nat) (y m : Int) hy hm => HGS.out t c y m (by omega) hy hm)
          generalize evenL WL k (t : Int) = M at *
          go_wp2_with fail
          refine C7.out.mono ?_
          rintro e v8 ⟨s8, rfl, hO8, hb8⟩
          obtain ⟨q8, cap8, rfl, hT8⟩ := hO8.tab
          rw [List.length_map, HE1.out] at hT8 ⊢
          have CS := HSK.out q8 cap8 M v8 hT8 HEB.out
          rw [HE2.out] at CS
          have CS := Lib.hid CS
          have HT8 := Lib.hid hT8
          have HS8 := Lib.hid (HS.out.below hb8)
          have HB8 := Lib.hid (HB.out.trans (hb8.mono HB.out.size))
          have hlo := HB.out.size
          have HAP : Hid (∀ b, some b = q8.map (·.block) → b ≠ wl.heap.size) := Lib.hid (fun b hb e => by
            cases q8 with
            | none => cases hb
            | some ad =>
              simp at hb
              have h1 := (hO8.own.lt ad.block (by
                obtain ⟨⟨_, hv⟩, _⟩ := hO8
                rcases hv with ⟨h0, _⟩ | ⟨g', cap', cur, h0, _⟩
                · cases h0
                · simp only [Value.slice.injEq, Option.some.injEq] at h0
                  obtain ⟨rfl, _⟩ := h0
                  rfl)).1
              have h2 := (HS.out.own.lt wl.heap.size rfl).2
              omega)
          have t1 : ((nn : Int) != (nn : Int)) = false := by simp
          have t2 : ((k : Int) != (k : Int)) = false := by simp
          clear hO8 hT8 hb8 C7 HS HB
          go_wp2_with fail
          refine CS.out.mono ?_
          rintro e w9 ⟨rfl, hw9⟩
          rw [hw9]
          clear hw9 CS
          go_wp2_with fail
          clear t1 t2
          go_loopg [73] nn (fun g i wr => ∃ c : Nat, c + g = nn ∧ i = .int .i64 c ∧ Hid (Own wr wl.heap.size 3 1 (.slice (some ⟨wl.heap.size, 0, none⟩) nn nn) ((gotL WL k t c).map iC)) ∧ Hid (Below wl.heap.size wl wr) ∧ Hid (Tab wr q8 nn cap8 1 (M.map iC)))
          case atStart => exact ⟨0, by omega, rfl, HS8, HB8, HT8⟩
          case round =>
            clear HS8 HB8 HT8
            obtain ⟨c, hc0, rfl, HS, HB, HT8⟩ := hrel
            have HC := Lib.hid hc0
            have hc : c ≤ nn := by omega
            clear hc0
            by_cases hcl : c < nn
            · obtain ⟨m, hmm⟩ : ∃ x, M[c]? = some x := ⟨_, List.getElem?_eq_getElem (by rw [HE1.out]; exact hcl)⟩
              obtain ⟨e1, o1, ha1, hbs1, f1⟩ := HT8.out.one (Below.refl _ _) (map_get hmm)
              have hg := HGG.out t c c hcl
              rw [if_neg (by omega)] at hg
              have hgb := HGB.out c t hcl (by omega)
              have hkt : (t : Int) * (k : Int) ≤ (t : Int) * 12 := Int.mul_le_mul_of_nonneg_left (by omega) (by omega)
              obtain ⟨y, hy⟩ : ∃ y, gotI WL k t c = y := ⟨_, rfl⟩
              rw [hy] at hg hgb
              have y0 := hgb.1
              have y1 : y ≤ 1920 := by omega
              have bm := HEB.out m (List.mem_of_getElem? hmm)
              have m0 := bm.1
              have m1 : m ≤ 12 := by omega
              obtain ⟨g1, g2, _, _⟩ := HS.out.at1 (map_get hg)
              have hS9 := HS.out.set1 (map_get hg) (.int .i64 (y + m))
              rw [← show iC (y + m) = [Value.int .i64 (y + m)] from rfl, ← List.map_set, HGS1.out c y m hg hmm] at hS9
              have HS9 := Lib.hid hS9
              have HB9 := Lib.hid (HB.out.setCell (p := ⟨wl.heap.size, c, none⟩) (Nat.le_refl _) (.int .i64 (y + m)))
              have hne : e1 ≠ wl.heap.size := HAP.out e1 (by rw [ha1]; rfl)
              have HT9 : Hid (Tab (wr.setCell ⟨wl.heap.size, c, none⟩ (.int .i64 (y + m))) q8 nn cap8 1 (M.map iC)) := Lib.hid (by
                have h := HT8.out
                refine ⟨h.hlen, h.hle, h.hmax, h.hnil, fun hl => ?_⟩
                obtain ⟨b, off, hb, hlt2, hcells⟩ := h.hspot hl
                have hbe : b ≠ wl.heap.size := HAP.out b (by rw [hb]; rfl)
                refine ⟨b, off, hb, by simpa [World.setCell] using hlt2, fun i r hr j u hu => ?_⟩
                have := hcells i r hr j u hu
                unfold World.cell? at this ⊢
                rw [Below.heap_setCell _ _ _ _ (show b ≠ wl.heap.size from hbe)]
                exact this)
              subst ha1
              clear hmm hg hgb hy bm hS9
              go_wp2_with fail
              go_roundg (nn - (c + 1))
              case measure => have := HC.out; omega
              case rel => exact ⟨c + 1, by omega, by go_num, HS9, HB9, HT9⟩
            · obtain rfl : c = nn := by omega
              have hS := HS.out
              rw [HGN.out t] at hS
              have HS2 := Lib.hid hS
              clear HS hS HAP
              go_wp2_with fail
              go_roundg (PA - (t + 1))
              case measure => have := HJ.out; omega
              case rel => exact ⟨t + 1, by omega, by go_num, HS2, HB⟩
        · obtain rfl : t = PA := by omega
          have HTS := Lib.hid HS.out.tab_of
          have HTL := Lib.hid (HTQ.out.below HB.out)
          clear HS HJ
          go_wp2_with fail
          go_loopg [89] nn (fun g i wr => ∃ c : Nat, c + g = nn ∧ i = .int .i64 c ∧ Hid (Below wo.heap.size wo wr))
          case atStart => exact ⟨0, by omega, rfl, Lib.hid (Below.refl _ _)⟩
          case round =>
            obtain ⟨c, hc0, rfl, HBR⟩ := hrel
            have HC := Lib.hid hc0
            have hc : c ≤ nn := by omega
            clear hc0
            by_cases hcl : c < nn
            · obtain ⟨x, hx⟩ : ∃ x, WL[c]? = some x := ⟨_, List.getElem?_eq_getElem (by rw [HWL.out]; exact hcl)⟩
              have hg := HGG.out t 0 c hcl
              rw [if_neg (by omega), HGA.out c x hx] at hg
              obtain ⟨e1, o1, ha1, hbs1, f1⟩ := HTL.out.one HBR.out (map_get hx)
              obtain ⟨e2, o2, ha2, hbs2, f2⟩ := HTS.out.one HBR.out (map_get hg)
              simp only [Option.some.injEq, Addr.mk.injEq, and_true] at ha2
              obtain ⟨rfl, rfl⟩ := ha2
              rw [Nat.zero_add] at f2
              have bx := HWB.out x (List.mem_of_getElem? hx)
              obtain ⟨r0, r1, r2, r3⟩ := prod_bd (k := (k : Int)) (x := x) (A := (t : Int)) (by omega) (by omega) bx.1 bx.2 (by omega) (by omega)
              obtain ⟨Y, hY⟩ : ∃ Y, (k : Int) * x = Y := ⟨_, rfl⟩
              rw [hY] at r0 r1 r2 r3 f2
              obtain ⟨Z, hZ⟩ : ∃ Z, Y * (t : Int) = Z := ⟨_, rfl⟩
              rw [hZ] at r2 r3
              have q1 : wrap64 (Y * (t : Int)) = Z := by rw [hZ]; unfold wrap64; omega
              have q2 : wrap64 (x * (k : Int)) = Y := by rw [Int.mul_comm, hY]; unfold wrap64; omega
              have q3 : wrap64 (x * (k : Int) * (t : Int)) = Z := by rw [Int.mul_comm x, hY]; exact q1
              have t9 : (Z != Z) = false := by simp
              subst ha1
              clear hx hg bx hY hZ
              go_wp2_with fail
              go_quiet (fail)
              go_wp2_with fail
              go_roundg (nn - (c + 1))
              case measure => have := HC.out; omega
              case rel => exact ⟨c + 1, by omega, by go_num, Lib.hid (below_drewN HBR.out _)⟩
            · obtain rfl : c = nn := by omega
              go_wp2
              go_ret
              exact ⟨rfl, below_on (below_on HBC.out HB.out) HBR.out⟩

set_option maxRecDepth 100000 in
theorem lifted (os : Os) (started : os.Started) (H : Type) (enc : TypeId × Value → H) :
    ReturnsInHanded {} Try.checked os 4 .any (Rows.topEvenSpec.pre6 enc Try.prog Try.f4 Rows.topEvenRow.domain false) (Rows.topEvenSpec.post enc Try.prog Try.f4 false true false false) := by
  refine returnsInHanded_of_change_sized (C := Try.checked) own started (by kernel_rfl) Try.func4
    (ChangeSpec.witness6 (enc := enc) (C := Try.checked) false ⟨#[], #[.slice none 0 0, .int .i64 0], []⟩ 8 (by kernel_rfl) (by kernel_rfl) (by kernel_rfl) (by kernel_rfl)) ?_
  intro W base args ds gs before hval0 hW hcnd hsz0 _
  have hval : ∀ (j : Nat) t v, Try.f4.params[j]? = some t → args[j]? = some v → Value.okWide Try.prog W .any base t v := hval0
  have hW' := hW
  obtain ⟨p, q, hA0, hV, rfl, hfz, hnd⟩ := hW
  have hA : DataW.TrodAll enc Try.prog W 0 (fun _ => true) true Try.f4.params.toList args.toList ds p := hA0
  have hsz : (DataW.weightsEach Try.prog (Try.f4.params.toList ++ Rows.topEvenSpec.plain.varTypes Try.prog) (ds ++ gs)).all (· ≤ reachBytes) = true := hsz0
  rw [Try.params4] at hA hval hsz
  obtain ⟨v0, vs0, d0, ds0, p0, q0, hargs, rfl, rfl, h0, r0⟩ := trodAll_cons hA
  obtain ⟨v1, vs1, d1, ds1, p1, q1, rfl, rfl, rfl, h1, r1⟩ := trodAll_cons r0
  obtain ⟨rfl, rfl, rfl⟩ := trodAll_nil r1
  obtain rfl : args = #[v0, v1] := by cases args; simp_all
  obtain ⟨rfl, rfl⟩ := trodVars_none hV
  have k0 := h0
  have L0 := light_of hsz (j := 0) (t := 26) (d := d0) rfl rfl
  have lt0 : ∀ x ∈ p0, x.block < W.heap.size := by obtain ⟨m, hm⟩ := k0; exact DataW.trod_lt m _ _ _ hm
  obtain ⟨a0, len0, cap0, rfl⟩ := okWide_slice Try.underlying26 (hval 0 26 v0 rfl rfl)
  obtain ⟨n0, f0⟩ := trod_slice_of Try.underlying26 h0
  have F0 := And.intro f0 L0
  obtain ⟨x0, e0, t0, b0, o0⟩ := el_slice (w := W) (k := 1) iC wfI (by decide) Try.underlying26 (by kernel_rfl) (el_int Try.underlying3) (B := 8) (by kernel_rfl) _ _ _ F0.1 F0.2
  simp only [slC, List.cons.injEq, Value.slice.injEq, and_true] at e0
  obtain ⟨rfl, rfl, rfl⟩ := e0
  have k1 := h1
  have L1 := light_of hsz (j := 1) (t := 3) (d := d1) rfl rfl
  have lt1 : ∀ x ∈ p1, x.block < W.heap.size := by obtain ⟨m, hm⟩ := k1; exact DataW.trod_lt m _ _ _ hm
  obtain ⟨x1, rfl, rfl, rfl, w1⟩ := open_int Try.underlying3 (hval 1 3 v1 rfl rfl) h1
  clear hA0 hval0
  refine (walk x0 x1 W t0 b0 o0 w1).mono fun e W' ⟨he, hg⟩ => ?_
  subst he
  exact ⟨_, rfl, _, _, _, [], _, [], hW', trodAll_mk1 (shut_bool Try.underlying4 _), (trodAll_cons_mk (Below.trod laidOut (by kernel_rfl) (of_decide_eq_true (by kernel_rfl)) k0 hg lt0) (trodAll_cons_mk (Below.trod laidOut (by kernel_rfl) (of_decide_eq_true (by kernel_rfl)) k1 hg lt1) trodAll_mk0)), rfl, hg.frame _, fun h => by cases h⟩

theorem over : Rows.topEvenRow.holds Try.pinned (OpenSpec.ofChange Rows.topEvenSpec) :=
  OpenClaim.holds_of_wide 4 Try.f4 rfl rfl rfl rfl rfl rfl rfl ⟨rfl, rfl, rfl, rfl, rfl⟩ rfl rfl rfl rfl rfl (by kernel_rfl) Try.func4 (by kernel_rfl)
    (of_decide_eq_true (by kernel_rfl)) (by unfold Func.isWrapper; first | (rw [if_pos (by decide +kernel)]; kernel_rfl) | (rw [if_neg (by decide +kernel)]; exact ⟨rfl, rfl⟩))
    (fun os started H enc _ => lifted os started H enc)

/-- ████ THE STATEMENT ████ -/
theorem proved : Rows.TopEvenSaid :=
  over
#print axioms proved
end Go.Proofs.Ytfgcmlgdgmcffab.topEven
