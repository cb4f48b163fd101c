/-
  'Rows.EvenAllSaid' is proved: over all starts each index is picked k times its weight. No condition.
-/
import Derived.Test.YteddoccgbebbeaaRows
import Derived.Test.YteddoccgbebbeaaShapes
import Derived.Test.YteddoccgbebbeaaCumEven
import Derived.Test.YteddoccgbebbeaaKeepSum
import Derived.Test.YteddoccgbebbeaaWeightsAny
import Derived.Test.YteddoccgbebbeaaEqualInts
import Derived.Test.YteddoccgbebbeaaLit
import Derived.Deep.DeepCutAuto
import Derived.WalkKit
import Derived.ProofKit
import Derived.OpenShut
import Derived.ShutString
import Derived.ChangeOld
import Derived.Below
namespace Go.Proofs.Yteddoccgbebbeaa.evenAll
open Go.ChangeShapes Go.WideShapes Go.ChangeAt Go.RowKit
open Go.ChangeMaps (open_string shut_string)
set_option linter.unusedVariables false

theorem own : ownKnob Try.prog.godebug = none := by kernel_rfl
theorem laidOut : laidOutB Try.prog = true := by kernel_rfl

open Cum
theorem wa : weightsE [3] = 0 := by decide
theorem pa : evenL [3] 2 1 = [2] := by decide
theorem take_few7 {l : List Int} {n : Nat} (h : n ≤ 7) : (l.take n).take 39 = l.take n := by rw [List.take_take]; congr 1; omega
/-- what the indices got: of the starts below t all, and of start t the first c indices -/
def gotL (l : List Int) (k t c : Nat) : List Int := (List.range l.length).map (fun i => if i < c then gotI l k (t + 1) i else gotI l k t i)
theorem gotL_len (l : List Int) (k t c : Nat) : (gotL l k t c).length = l.length := by simp [gotL]
theorem gotL_get {l : List Int} {k t c i : Nat} (h : i < l.length) : (gotL l k t c)[i]? = some (if i < c then gotI l k (t + 1) i else gotI l k t i) := by simp [gotL, h]
theorem gotL_start {l : List Int} {k : Nat} : gotL l k 0 0 = List.replicate l.length 0 := by
  apply List.ext_getElem?
  intro i
  by_cases h : i < l.length
  · rw [gotL_get h, if_neg (by omega), gotI_zero, List.getElem?_replicate, if_pos h]
  · rw [List.getElem?_eq_none (by rw [gotL_len]; omega), List.getElem?_eq_none (by rw [List.length_replicate]; omega)]
theorem gotL_next {l : List Int} {k t : Nat} : gotL l k t l.length = gotL l k (t + 1) 0 := by
  apply List.ext_getElem?
  intro i
  by_cases h : i < l.length
  · rw [gotL_get h, gotL_get h, if_pos h, if_neg (by omega)]
  · rw [List.getElem?_eq_none (by rw [gotL_len]; omega), List.getElem?_eq_none (by rw [gotL_len]; omega)]
theorem gotL_set {l : List Int} {k t c : Nat} {y m : Int} (hz : ∀ x ∈ l, 0 ≤ x) (ht : (t : Int) < l.sum) (hy : (gotL l k t c)[c]? = some y) (hm : (evenL l k t)[c]? = some m) : (gotL l k t c).set c (y + m) = gotL l k t (c + 1) := by
  have hc : c < l.length := by have := (List.getElem?_eq_some_iff.1 hy).1; rwa [gotL_len] at this
  rw [gotL_get hc, if_neg (by omega), Option.some.injEq] at hy
  apply List.ext_getElem?
  intro i
  by_cases h : i < l.length
  · rw [List.getElem?_set, gotL_get h, gotL_get h]
    by_cases e : c = i
    · subst e
      rw [if_pos rfl, if_pos (by rw [gotL_len]; exact h), if_pos (by omega), gotI_succ hz ht hm, hy]
    · rw [if_neg e]
      by_cases e2 : i < c
      · rw [if_pos e2, if_pos (by omega)]
      · rw [if_neg e2, if_neg (by omega)]
  · rw [List.getElem?_eq_none (by rw [List.length_set, gotL_len]; omega), List.getElem?_eq_none (by rw [gotL_len]; omega)]
theorem gotI_bd {l : List Int} {k : Nat} (hz : ∀ x ∈ l, 0 ≤ x) {i : Nat} (hi : i < l.length) : ∀ t : Nat, (t : Int) ≤ l.sum → 0 ≤ gotI l k t i ∧ gotI l k t i ≤ (t : Int) * (k : Int)
  | 0, _ => by rw [gotI_zero]; simp
  | t + 1, ht => by
    have ih := gotI_bd (k := k) hz hi t (by omega)
    obtain ⟨m, hm⟩ : ∃ m, (evenL l k t)[i]? = some m := ⟨_, List.getElem?_eq_getElem (by rw [evenL_len]; exact hi)⟩
    have hb := tally_mem (List.mem_of_getElem? hm)
    rw [gotI_succ hz (by omega) hm, show ((t + 1 : Nat) : Int) = (t : Int) + 1 from by omega, Int.add_mul, Int.one_mul]
    omega

set_option maxRecDepth 100000 in
set_option maxHeartbeats 2000000 in
theorem walk (x0 : Sl Int) (x1 : Int) (w : World) (t0 : Tab w x0.a x0.len x0.cap 1 (x0.l.map iC)) (b0 : x0.len * 8 ≤ 140737488351232) (o0 : ∀ z ∈ x0.l, wfI z) (w1 : (Lit.int .i64 x1).wf = true) :
    Calls Try.prog 7 #[.slice x0.a x0.len x0.cap, .int .i64 x1] w fun e w' => e = .returned (.bool true) ∧ Below w.heap.size w w' := by
  obtain ⟨a, len, cap, L⟩ := x0
  have hm := t0.hmax
  have hle := t0.hle
  unfold maxLen at hm
  have b1 := wf_i64 w1
  have HT := Lib.hid t0
  have HO := Lib.hid o0
  clear t0 b0 o0
  have hb0 : Below w.heap.size w (w.alloc (.cells #[.int .i64 3] 3)) := (Below.refl _ _).alloc (Nat.le_refl _) _
  have C0 := even_ok (some ⟨w.heap.size, 0, none⟩) 1 1 [3] 2 1 _ (tab_lit w 3 1 1 ([(3 : Int)].map iC) #[.int .i64 3] rfl rfl (rows_of iC_len _) (by decide) _ rfl) wa (by decide) (by decide) (by decide) (by decide)
  rw [pa] at C0
  have C0 := Lib.hid C0
  have d1 := withI_bd x1 12 (by omega)
  have HW1 := Lib.hid (fun W => within_int x1 12 W b1 (by omega) (by omega))
  generalize withI x1 12 = K0 at *
  obtain ⟨k, hk⟩ := Int.eq_ofNat_of_zero_le (show 0 ≤ 1 + K0 by omega)
  have hk1 : 1 ≤ k := by omega
  have hk2 : k ≤ 12 := by omega
  have hK0 := d1.1
  have hK1 := d1.2
  have HK := Lib.hid hk
  clear d1 hk b1 w1
  go_enter Try.func7, Try.ntmps7
  go_wp2_with fail
  refine C0.out.mono ?_
  rintro e v0 ⟨s1, rfl, hO1, hb1⟩
  have hb1' := below_on hb0 hb1
  obtain ⟨q1, cap1, rfl, hT1⟩ := hO1.tab
  have E1 := Lib.hid (equal_ints q1 (some ⟨v0.heap.size, 0, none⟩) 1 cap1 1 1 [2] [2] (v0.alloc (.cells #[.int .i64 2] 3)) (hT1.below ((Below.refl _ _).alloc (Nat.le_refl _) _)) (tab_lit v0 3 1 1 ([(2 : Int)].map iC) #[.int .i64 2] rfl rfl (rows_of iC_len _) (by decide) _ rfl) true (by simp))
  have HB0 := Lib.hid (hb1'.alloc hb1'.size (.cells #[.int .i64 2] 3))
  clear hb0 hb1 hb1' hO1 hT1 C0
  go_wp2_with fail
  refine E1.out.mono ?_
  rintro e v1 ⟨rfl, hb2⟩
  have HB1 := Lib.hid (below_on HB0.out hb2)
  clear HB0 hb2 E1
  obtain ⟨n, hn⟩ : ∃ n, min len 7 = n := ⟨_, rfl⟩
  have hn1 : n ≤ len := by omega
  have hn2 : n ≤ 7 := by omega
  have CW := weightsM_any a n cap (L.take n) 20 v1 (by have := HT.out.upto_ n hn1; rw [← List.map_take] at this; exact this.below HB1.out) (fun z hz => HO.out z (List.mem_of_mem_take hz)) (by decide) (by decide)
  rw [take_few7 hn2] at CW
  have CW := Lib.hid CW
  have rU := run_upto 22 3 1 Try.underlying22 elem_int4 size_int4 a len cap n (by omega)
  have HWL : Hid ((weightsM 20 (L.take n)).length = n + 1) := Lib.hid (by rw [weightsM_len, List.length_take]; have h := HT.out.hlen; rw [List.length_map] at h; have h' : L.length = len := h; omega)
  have HWE : Hid (weightsE (weightsM 20 (L.take n)) = 0) := Lib.hid (weightsM_ok (by decide) (by decide) (by rw [List.length_take]; omega))
  have HWB := Lib.hid (weightsM_bd (m := 20) (by decide) (l := L.take n))
  have HPS := Lib.hid (weightsM_pos (m := 20) (by decide) (by decide) (l := L.take n))
  generalize weightsM 20 (L.take n) = WL at *
  go_upto_region 4 with fail
  go_cut [0] (fun s wx => ∃ q capq, s = .slice q (n + 1) capq ∧ Hid (Tab wx q (n + 1) capq 1 (WL.map iC)) ∧ Hid (Below w.heap.size w wx))
  case first =>
    by_cases h9 : len ≤ 7
    · obtain rfl : n = len := by omega
      clear hn
      go_wp2_with fail
      refine CW.out.mono ?_
      rintro e v2 ⟨s2, rfl, hO2, hb2⟩
      obtain ⟨q2, cap2, rfl, hT2⟩ := hO2.tab
      rw [List.length_map, HWL.out] at hT2 ⊢
      go_wp2_with fail
      go_meet
      case rel => exact ⟨q2, cap2, rfl, Lib.hid hT2, Lib.hid (below_on HB1.out hb2)⟩
    · obtain rfl : n = 7 := by omega
      have h9' : 7 < len := by omega
      clear hn h9
      go_wp2_with fail
      refine CW.out.mono ?_
      rintro e v2 ⟨s2, rfl, hO2, hb2⟩
      obtain ⟨q2, cap2, rfl, hT2⟩ := hO2.tab
      rw [List.length_map, HWL.out] at hT2 ⊢
      go_wp2_with fail
      go_meet
      case rel => exact ⟨q2, cap2, rfl, Lib.hid hT2, Lib.hid (below_on HB1.out hb2)⟩
  case rest =>
  obtain ⟨q, capq, rfl, HTQ, HBC⟩ := hcut
  obtain ⟨wc, hwc⟩ : ∃ w', w' = wc := ⟨_, rfl⟩
  subst hwc
  obtain ⟨nn, hnn⟩ : ∃ nn, n + 1 = nn := ⟨_, rfl⟩
  rw [hnn] at HTQ HWL ⊢
  have hnn10 : nn ≤ 8 := by omega
  have hnn1 : 1 ≤ nn := by omega
  clear CW rU hn hn1 hn2 hnn HT HO HB1 hm hle
  have hz : ∀ x ∈ WL, 0 ≤ x ∧ x ≤ 1000000000000 := fun x hx => by have := HWB.out x hx; omega
  have hz0 : ∀ x ∈ WL, 0 ≤ x := fun x hx => (hz x hx).1
  have HZ0 := Lib.hid hz0
  have HSM := Lib.hid (fun (W : World) (hW : Tab W q nn capq 1 (WL.map iC)) => keepSum_any q nn capq WL W hW (by omega) hz)
  have bA := sum_bd hz
  rw [HWL.out] at bA
  have bA1 := bA.1
  have bA2 : WL.sum ≤ 40000000000000 := by omega
  obtain ⟨PA, hPA⟩ := Int.eq_ofNat_of_zero_le bA1
  have hPA1 : 1 ≤ PA := by have := HPS.out; omega
  have HEV := Lib.hid (fun (t : Nat) (ht : (t : Int) < WL.sum) (W : World) (hT : Tab W q nn capq 1 (WL.map iC)) => even_ok q nn capq WL k t W hT HWE.out hk1 (by omega) (by omega) ht)
  have HGS := Lib.hid (fun (t c : Nat) (y m : Int) (ht : (t : Int) < WL.sum) hy hm => gotL_set (l := WL) (k := k) (t := t) (c := c) (y := y) (m := m) hz0 ht hy hm)
  have HGB := Lib.hid (fun (i t : Nat) (hi : i < nn) (ht : (t : Int) ≤ WL.sum) => gotI_bd (l := WL) (k := k) hz0 (i := i) (by rw [HWL.out]; exact hi) t ht)
  have HGA := Lib.hid (fun (i : Nat) (x : Int) (hx : WL[i]? = some x) => gotI_all (k := k) (t := PA) hz0 hPA.symm (by omega) hx)
  have HEL := Lib.hid (fun s => evenL_len WL k s)
  have HG0 := Lib.hid (gotL_start (l := WL) (k := k))
  have HGN := Lib.hid (fun t => gotL_next (l := WL) (k := k) (t := t))
  have HGG := Lib.hid (fun t c i h => gotL_get (l := WL) (k := k) (t := t) (c := c) (i := i) h)
  rw [HWL.out] at HEL HG0 HGN HGG
  rw [hPA] at HSM HEV HGS HGB bA2
  have bA3 : PA ≤ 160 := by
    have hs : ∀ l : List Int, (∀ x ∈ l, 0 ≤ x ∧ x ≤ 20) → l.sum ≤ (l.length : Int) * 20 := by
      intro l
      induction l with
      | nil => intro _; simp
      | cons x l ih =>
        intro h
        have h1 := ih (fun y hy => h y (List.mem_cons_of_mem _ hy))
        have h2 := h x (by simp)
        rw [List.sum_cons, List.length_cons]
        omega
    have := hs WL HWB.out
    rw [HWL.out] at this
    omega
  clear hz bA bA1 hz0 hPA bA2
  obtain ⟨i0, hi, hz0, hz1, hz2⟩ := info_parts info_int
  have HI := Lib.hid (And.intro hi (And.intro hz0 (And.intro hz1 hz2)))
  clear hi hz0 hz1 hz2
  go_wp2_with fail
  refine (HW1.out _).mono ?_
  rintro e w4 ⟨rfl, rfl⟩
  go_upto_region 6 with fail
  rw [HK.out]
  go_wp2_with (at_make; refine wpList_make_full _ rfl _ _ 22 rfl wc.heap.size 3 i0 (.int .i64 0) 1 Try.underlying22 HI.out.1 HI.out.2.1 HI.out.2.2.1 _ _ _ _ nn rfl rfl rfl rfl (by rw [HI.out.2.2.2]; omega) (by unfold maxLen; omega) (Nat.le_refl _) ?_; intro w6 hO6 hg6)
  have hO7 : Own w6 wc.heap.size 3 1 (.slice (some ⟨wc.heap.size, 0, none⟩) nn nn) ((gotL WL k 0 0).map iC) := by
    rw [HG0.out]
    exact Own.full hO6 (made_ints nn)
  have HO7 := Lib.hid hO7
  have HB6 := Lib.hid ((Below.refl _ _).grown hg6 (Nat.le_refl _) (fun j hj => by cases hj))
  clear hO6 hg6 HI hO7
  refine (HSM.out _ (HTQ.out.below HB6.out)).mono ?_
  rintro e w7 ⟨rfl, hw7⟩
  rw [hw7]
  clear hw7
  go_wp2_with fail
  go_loopg [42] PA (fun g i wr => ∃ t : Nat, t + g = PA ∧ i = .int .i64 t ∧ Hid (Own wr wc.heap.size 3 1 (.slice (some ⟨wc.heap.size, 0, none⟩) nn nn) ((gotL WL k t 0).map iC)) ∧ Hid (Below wc.heap.size wc wr))
  case atStart => exact ⟨0, by omega, rfl, HO7, HB6⟩
  case round =>
    clear HO7 HB6
    obtain ⟨t, ht0, rfl, HS, HB⟩ := hrel
    have HJ := Lib.hid ht0
    have ht : t ≤ PA := by omega
    clear ht0
    obtain ⟨wo, hwo⟩ : ∃ wo, wo = wr := ⟨_, rfl⟩
    subst hwo
    by_cases hlt : t < PA
    · have C7 := Lib.hid (HEV.out t (by omega) wo (HTQ.out.below HB.out))
      have HE1 := Lib.hid (HEL.out (t : Int))
      have HEB : Hid (∀ y ∈ evenL WL k (t : Int), 0 ≤ y ∧ y ≤ (k : Int)) := Lib.hid (fun y hy => tally_mem hy)
      have HGS1 := Lib.hid (fun (c : Nat) (y m : Int) hy hm => HGS.out t c y m (by omega) hy hm)
      generalize evenL WL k (t : Int) = M at *
      go_wp2_with fail
      refine C7.out.mono ?_
      rintro e v8 ⟨s8, rfl, hO8, hb8⟩
      obtain ⟨q8, cap8, rfl, hT8⟩ := hO8.tab
      rw [List.length_map, HE1.out] at hT8 ⊢
      have HT8 := Lib.hid hT8
      have HS8 := Lib.hid (HS.out.below hb8)
      have HB8 := Lib.hid (HB.out.trans (hb8.mono HB.out.size))
      have hlo := HB.out.size
      have HAP : Hid (∀ b, some b = q8.map (·.block) → b ≠ wc.heap.size) := Lib.hid (fun b hb e => by
        cases q8 with
        | none => cases hb
        | some ad =>
          simp at hb
          have h1 := (hO8.own.lt ad.block (by
            obtain ⟨⟨_, hv⟩, _⟩ := hO8
            rcases hv with ⟨h0, _⟩ | ⟨g', cap', cur, h0, _⟩
            · cases h0
            · simp only [Value.slice.injEq, Option.some.injEq] at h0
              obtain ⟨rfl, _⟩ := h0
              rfl)).1
          have h2 := (HS.out.own.lt wc.heap.size rfl).2
          omega)
      have t1 : ((nn : Int) != (nn : Int)) = false := by simp
      clear hO8 hT8 hb8 C7 HS HB
      go_wp2_with fail
      clear t1
      go_loopg [63] nn (fun g i wr => ∃ c : Nat, c + g = nn ∧ i = .int .i64 c ∧ Hid (Own wr wc.heap.size 3 1 (.slice (some ⟨wc.heap.size, 0, none⟩) nn nn) ((gotL WL k t c).map iC)) ∧ Hid (Below wc.heap.size wc wr) ∧ Hid (Tab wr q8 nn cap8 1 (M.map iC)))
      case atStart => exact ⟨0, by omega, rfl, HS8, HB8, HT8⟩
      case round =>
        clear HS8 HB8 HT8
        obtain ⟨c, hc0, rfl, HS, HB, HT8⟩ := hrel
        have HC := Lib.hid hc0
        have hc : c ≤ nn := by omega
        clear hc0
        by_cases hcl : c < nn
        · obtain ⟨m, hmm⟩ : ∃ x, M[c]? = some x := ⟨_, List.getElem?_eq_getElem (by rw [HE1.out]; exact hcl)⟩
          obtain ⟨e1, o1, ha1, hbs1, f1⟩ := HT8.out.one (Below.refl _ _) (map_get hmm)
          have hg := HGG.out t c c hcl
          rw [if_neg (by omega)] at hg
          have hgb := HGB.out c t hcl (by omega)
          have hkt : (t : Int) * (k : Int) ≤ (t : Int) * 12 := Int.mul_le_mul_of_nonneg_left (by omega) (by omega)
          obtain ⟨y, hy⟩ : ∃ y, gotI WL k t c = y := ⟨_, rfl⟩
          rw [hy] at hg hgb
          have y0 := hgb.1
          have y1 : y ≤ 1920 := by omega
          have bm := HEB.out m (List.mem_of_getElem? hmm)
          have m0 := bm.1
          have m1 : m ≤ 12 := by omega
          obtain ⟨g1, g2, _, _⟩ := HS.out.at1 (map_get hg)
          have hS9 := HS.out.set1 (map_get hg) (.int .i64 (y + m))
          rw [← show iC (y + m) = [Value.int .i64 (y + m)] from rfl, ← List.map_set, HGS1.out c y m hg hmm] at hS9
          have HS9 := Lib.hid hS9
          have HB9 := Lib.hid (HB.out.setCell (p := ⟨wc.heap.size, c, none⟩) (Nat.le_refl _) (.int .i64 (y + m)))
          have hne : e1 ≠ wc.heap.size := HAP.out e1 (by rw [ha1]; rfl)
          have HT9 : Hid (Tab (wr.setCell ⟨wc.heap.size, c, none⟩ (.int .i64 (y + m))) q8 nn cap8 1 (M.map iC)) := Lib.hid (by
            have h := HT8.out
            refine ⟨h.hlen, h.hle, h.hmax, h.hnil, fun hl => ?_⟩
            obtain ⟨b, off, hb, hlt2, hcells⟩ := h.hspot hl
            have hbe : b ≠ wc.heap.size := HAP.out b (by rw [hb]; rfl)
            refine ⟨b, off, hb, by simpa [World.setCell] using hlt2, fun i r hr j u hu => ?_⟩
            have := hcells i r hr j u hu
            unfold World.cell? at this ⊢
            rw [Below.heap_setCell _ _ _ _ (show b ≠ wc.heap.size from hbe)]
            exact this)
          subst ha1
          clear hmm hg hgb hy bm hS9
          go_wp2_with fail
          go_roundg (nn - (c + 1))
          case measure => have := HC.out; omega
          case rel => exact ⟨c + 1, by omega, by go_num, HS9, HB9, HT9⟩
        · obtain rfl : c = nn := by omega
          have hS := HS.out
          rw [HGN.out t] at hS
          have HS2 := Lib.hid hS
          clear HS hS HAP
          go_wp2_with fail
          go_roundg (PA - (t + 1))
          case measure => have := HJ.out; omega
          case rel => exact ⟨t + 1, by omega, by go_num, HS2, HB⟩
    · obtain rfl : t = PA := by omega
      have HTS := Lib.hid HS.out.tab_of
      have HTL := Lib.hid (HTQ.out.below HB.out)
      clear HS HJ
      go_wp2_with fail
      go_loopg [79] nn (fun g i wr => ∃ c : Nat, c + g = nn ∧ i = .int .i64 c ∧ wr = wo)
      case atStart => exact ⟨0, by omega, rfl, rfl⟩
      case round =>
        obtain ⟨c, hc0, rfl, rfl⟩ := hrel
        have HC := Lib.hid hc0
        have hc : c ≤ nn := by omega
        clear hc0
        by_cases hcl : c < nn
        · obtain ⟨x, hx⟩ : ∃ x, WL[c]? = some x := ⟨_, List.getElem?_eq_getElem (by rw [HWL.out]; exact hcl)⟩
          have hg := HGG.out t 0 c hcl
          rw [if_neg (by omega), HGA.out c x hx] at hg
          obtain ⟨e1, o1, ha1, hbs1, f1⟩ := HTL.out.one (Below.refl _ _) (map_get hx)
          obtain ⟨e2, o2, ha2, hbs2, f2⟩ := HTS.out.one (Below.refl _ _) (map_get hg)
          simp only [Option.some.injEq, Addr.mk.injEq, and_true] at ha2
          obtain ⟨rfl, rfl⟩ := ha2
          rw [Nat.zero_add] at f2
          have bx := HWB.out x (List.mem_of_getElem? hx)
          have r0 : 0 ≤ (k : Int) * x := Int.mul_nonneg (by omega) bx.1
          have r1 : (k : Int) * x ≤ 12 * x := Int.mul_le_mul_of_nonneg_right (by omega) bx.1
          have r2 : (k : Int) * x ≤ 240 := by omega
          have t9 : (((k : Int) * x) != ((k : Int) * x)) = false := by simp
          subst ha1
          clear hx hg bx r1
          go_wp2_with fail
          go_roundg (nn - (c + 1))
          case measure => have := HC.out; omega
          case rel => exact ⟨c + 1, by omega, by go_num, rfl⟩
        · obtain rfl : c = nn := by omega
          go_wp2
          go_ret
          exact ⟨rfl, below_on HBC.out HB.out⟩

set_option maxRecDepth 100000 in
theorem lifted (os : Os) (started : os.Started) (H : Type) (enc : TypeId × Value → H) :
    ReturnsInHanded {} Try.checked os 7 .any (Rows.evenAllSpec.pre6 enc Try.prog Try.f7 Rows.evenAllRow.domain false) (Rows.evenAllSpec.post enc Try.prog Try.f7 false true false false) := by
  refine returnsInHanded_of_change_sized (C := Try.checked) own started (by kernel_rfl) Try.func7
    (ChangeSpec.witness6 (enc := enc) (C := Try.checked) false ⟨#[], #[.slice none 0 0, .int .i64 0], []⟩ 8 (by kernel_rfl) (by kernel_rfl) (by kernel_rfl) (by kernel_rfl)) ?_
  intro W base args ds gs before hval0 hW hcnd hsz0 _
  have hval : ∀ (j : Nat) t v, Try.f7.params[j]? = some t → args[j]? = some v → Value.okWide Try.prog W .any base t v := hval0
  have hW' := hW
  obtain ⟨p, q, hA0, hV, rfl, hfz, hnd⟩ := hW
  have hA : DataW.TrodAll enc Try.prog W 0 (fun _ => true) true Try.f7.params.toList args.toList ds p := hA0
  have hsz : (DataW.weightsEach Try.prog (Try.f7.params.toList ++ Rows.evenAllSpec.plain.varTypes Try.prog) (ds ++ gs)).all (· ≤ reachBytes) = true := hsz0
  rw [Try.params7] at hA hval hsz
  obtain ⟨v0, vs0, d0, ds0, p0, q0, hargs, rfl, rfl, h0, r0⟩ := trodAll_cons hA
  obtain ⟨v1, vs1, d1, ds1, p1, q1, rfl, rfl, rfl, h1, r1⟩ := trodAll_cons r0
  obtain ⟨rfl, rfl, rfl⟩ := trodAll_nil r1
  obtain rfl : args = #[v0, v1] := by cases args; simp_all
  obtain ⟨rfl, rfl⟩ := trodVars_none hV
  have k0 := h0
  have L0 := light_of hsz (j := 0) (t := 22) (d := d0) rfl rfl
  have lt0 : ∀ x ∈ p0, x.block < W.heap.size := by obtain ⟨m, hm⟩ := k0; exact DataW.trod_lt m _ _ _ hm
  obtain ⟨a0, len0, cap0, rfl⟩ := okWide_slice Try.underlying22 (hval 0 22 v0 rfl rfl)
  obtain ⟨n0, f0⟩ := trod_slice_of Try.underlying22 h0
  have F0 := And.intro f0 L0
  obtain ⟨x0, e0, t0, b0, o0⟩ := el_slice (w := W) (k := 1) iC wfI (by decide) Try.underlying22 (by kernel_rfl) (el_int Try.underlying3) (B := 8) (by kernel_rfl) _ _ _ F0.1 F0.2
  simp only [slC, List.cons.injEq, Value.slice.injEq, and_true] at e0
  obtain ⟨rfl, rfl, rfl⟩ := e0
  have k1 := h1
  have L1 := light_of hsz (j := 1) (t := 3) (d := d1) rfl rfl
  have lt1 : ∀ x ∈ p1, x.block < W.heap.size := by obtain ⟨m, hm⟩ := k1; exact DataW.trod_lt m _ _ _ hm
  obtain ⟨x1, rfl, rfl, rfl, w1⟩ := open_int Try.underlying3 (hval 1 3 v1 rfl rfl) h1
  clear hA0 hval0
  refine (walk x0 x1 W t0 b0 o0 w1).mono fun e W' ⟨he, hg⟩ => ?_
  subst he
  exact ⟨_, rfl, _, _, _, [], _, [], hW', trodAll_mk1 (shut_bool Try.underlying4 _), (trodAll_cons_mk (Below.trod laidOut (by kernel_rfl) (of_decide_eq_true (by kernel_rfl)) k0 hg lt0) (trodAll_cons_mk (Below.trod laidOut (by kernel_rfl) (of_decide_eq_true (by kernel_rfl)) k1 hg lt1) trodAll_mk0)), rfl, hg.frame _, fun h => by cases h⟩

theorem over : Rows.evenAllRow.holds Try.pinned (OpenSpec.ofChange Rows.evenAllSpec) :=
  OpenClaim.holds_of_wide 7 Try.f7 rfl rfl rfl rfl rfl rfl rfl ⟨rfl, rfl, rfl, rfl, rfl⟩ rfl rfl rfl rfl rfl (by kernel_rfl) Try.func7 (by kernel_rfl)
    (of_decide_eq_true (by kernel_rfl)) (by unfold Func.isWrapper; first | (rw [if_pos (by decide +kernel)]; kernel_rfl) | (rw [if_neg (by decide +kernel)]; exact ⟨rfl, rfl⟩))
    (fun os started H enc _ => lifted os started H enc)

/-- ████ THE STATEMENT ████ -/
theorem proved : Rows.EvenAllSaid :=
  over
#print axioms proved
end Go.Proofs.Yteddoccgbebbeaa.evenAll
