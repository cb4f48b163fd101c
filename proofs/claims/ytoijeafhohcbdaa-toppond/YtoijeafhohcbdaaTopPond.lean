/-
  'Rows.TopPondSaid' is proved: over all draws the deals' and the reservoirs' sets come equally often. No condition.
  The frame of this proof was written by the kit's proof-skeleton.mjs.
-/
import Derived.Test.YtoijeafhohcbdaaRows
import Derived.Test.YtoijeafhohcbdaaBegun
import Derived.Test.YtoijeafhohcbdaaWithin
import Derived.Test.YtoijeafhohcbdaaTopPondMath
import Derived.Test.YtoijeafhohcbdaaDigitDeal
import Derived.Test.YtoijeafhohcbdaaValuesIter
import Derived.Test.YtoijeafhohcbdaaCombWays
import Derived.Test.YtoijeafhohcbdaaCombRank
import Derived.Test.YtoijeafhohcbdaaRefFact
import Derived.Test.YtoijeafhohcbdaaPondVar
import Derived.Test.YtoijeafhohcbdaaSubSlice
import Derived.Test.YtoijeafhohcbdaaEqualInts
import Derived.Test.YtoijeafhohcbdaaLit
import Derived.Deep.DeepCutAuto
import Derived.Deep.LoopGhost
import Derived.Deep.RegionWith
import Derived.WalkKit
import Derived.ProofKit
import Derived.ChangeOld
import Derived.Below
import Derived.OpenShut
import Derived.ShutString
namespace Go.Proofs.Ytoijeafhohcbdaa.topPond
open Go.ChangeShapes Go.WideShapes Go.ChangeAt Go.RowKit
open Go.ChangeMaps (open_string shut_string)
set_option linter.unusedVariables false      -- a walk need not use every 'w<i>' (that an integer argument fits its kind)

theorem own : ownKnob Try.prog.godebug = none := by kernel_rfl

open TopPond Digit Binom
theorem size_intTP (w : World) : (sizeOf 3).run Try.prog w = .ok 1 w := by kernel_rfl
theorem elem_intTP : Try.prog.elem 23 = 3 := by kernel_rfl
theorem wfTP {z : Int} (h1 : -9223372036854775808 ≤ z) (h2 : z ≤ 9223372036854775807) : (Lit.int .i64 z).wf = true := by
  simp [Lit.wf, IntKind.min, IntKind.max, IntKind.bits, IntKind.signed]; omega
theorem lawTP : Maps.Keyed Try.prog 3 := Maps.int_keyed Try.underlying3
theorem zeroTP (w : World) : (zeroValue 3).run Try.prog w = .ok (.int .i64 0) w := by kernel_rfl
theorem keyTP (z : Int) (h : -9223372036854775808 ≤ z ∧ z ≤ 9223372036854775807) : keyOf Try.prog 3 (.int .i64 z) = some (.int .i64 z) := Maps.keyOf_int_mk (P := Try.prog) Try.underlying3 (wfTP h.1 h.2)
theorem sort_srt : ∀ {l : List Int}, l.length ≤ 2 → sortI l = srt l
  | [], _ => by simp [sortI, srt]
  | [x], _ => by simp [sortI, srt]
  | [x, y], _ => by
    show ([x, y] : List Int).mergeSort (fun x y => decide (x ≤ y)) = if y < x then [y, x] else [x, y]
    by_cases h : y < x
    · rw [if_pos h]
      have hs : (([y, x] : List Int).Pairwise fun a b => (decide (a ≤ b)) = true) := by simp; omega
      have e := List.mergeSort_of_pairwise hs
      have hp1 := List.mergeSort_perm [x, y] (fun a b => decide (a ≤ b))
      have hs1 : ((([x, y] : List Int).mergeSort fun a b => decide (a ≤ b)).Pairwise fun a b => (decide (a ≤ b)) = true) := List.pairwise_mergeSort (fun a b c h1 h2 => by simp at *; omega) (fun a b => by simp; omega) _
      have hp : (([x, y] : List Int).mergeSort fun a b => decide (a ≤ b)).Perm [y, x] := hp1.trans (List.Perm.swap y x [])
      exact List.Perm.eq_of_pairwise (fun a b _ _ h1 h2 => by simp at h1 h2; omega) hs1 hs hp
    · rw [if_neg h]
      exact List.mergeSort_of_pairwise (by simp; omega)
  | _ :: _ :: _ :: _, h => by simp at h
theorem items_lenT (k i : Nat) : ∀ j, (itemsT k i j).length = min k j
  | 0 => by simp [itemsT]
  | j + 1 => by
    show (pondL k (j : Int) (itemsT k i j) (j : Int) (dg i j)).length = _
    rw [pondL_len, items_lenT k i j]
    by_cases h : j < k
    · rw [if_pos (by omega)]; omega
    · rw [if_neg (by omega)]; omega
theorem seen_lenT (k n : Nat) : ∀ i, (TopPond.seen k n i).length = 2 * i
  | 0 => rfl
  | i + 1 => by simp [TopPond.seen, seen_lenT k n i]; omega
theorem ranks_all : pairs.all (fun p => (List.range (fact p.2)).all fun i => decide (dealR p.1 p.2 i < 10) && decide (pondR p.1 p.2 i < 10)) = true := by decide +kernel
theorem ranks_ok {k n i : Nat} (h : (k, n) ∈ pairs) (hi : i < fact n) : dealR k n i < 10 ∧ pondR k n i < 10 := by
  have := List.all_eq_true.1 (List.all_eq_true.1 ranks_all _ h) i (List.mem_range.2 hi)
  rw [Bool.and_eq_true, decide_eq_true_eq, decide_eq_true_eq] at this
  exact this
theorem fact_smallT {n : Nat} (h : n ≤ 4) : fact n ≤ 24 := by
  have : n = 0 ∨ n = 1 ∨ n = 2 ∨ n = 3 ∨ n = 4 := by omega
  rcases this with rfl | rfl | rfl | rfl | rfl <;> decide
theorem fact_posT (n : Nat) : 0 < fact n := by
  induction n with
  | zero => decide
  | succ n ih => rw [show fact (n + 1) = (n + 1) * fact n from rfl]; exact Nat.mul_pos (Nat.succ_pos n) ih
theorem rank_ofT {w : World} {base n : Nat} {v : Value} {l : List Int} (hO : Own w base 3 1 v ((sortI l).map iC)) (h2 : l.length ≤ 2) (hn : n ≤ 30) (hu : upB n (srt l) = true) :
    Calls Try.prog 40 #[v] w fun e w' => e = .returned (.tuple #[.int .i64 (rankFrom 0 (nats (srt l)) : Nat), .int .i64 0]) ∧ w = w' := by
  rw [sort_srt h2] at hO
  obtain ⟨a, cap, rfl, hT⟩ := hO.tab
  obtain ⟨u1, u2, u3⟩ := up_nats hn hu
  generalize ((srt l).map iC).length = len at hT ⊢
  rw [u1] at hT
  exact combRank_ok a len cap (nats (srt l)) w hT u2 u3

/-! ### STEP 1: THE WALK: the Go text returns true. 'Grown w w'': the world has at most new blocks (Derived/RowKit3.lean). Part the cases AHEAD of 'go_enter' where a test parts the walk; take each callee by a contract of your own. -/
set_option maxRecDepth 100000 in
set_option maxHeartbeats 2000000 in
theorem walk (a0 : Int) (a1 : Int) (w0 : (Lit.int .i64 a0).wf = true) (w1 : (Lit.int .i64 a1).wf = true) (w : World) :
    Calls Try.prog 11 #[.int .i64 a0, .int .i64 a1] w fun e w' => e = .returned (.bool true) ∧ Below w.heap.size w w' := by
  have b0 := wf_i64 w0
  have b1 := wf_i64 w1
  go_enter Try.func11, Try.ntmps11
  go_wp2_with fail
  refine (begun_any _).mono ?_
  rintro e v1 ⟨rfl, hb1⟩
  have HB1 := Lib.hid hb1
  clear hb1
  have d0 := withI_bd a0 2 (by omega)
  go_wp2_with fail
  refine (within_int a0 2 _ b0 (by omega) (by omega)).mono ?_
  rintro e v2 ⟨rfl, rfl⟩
  generalize withI a0 2 = K0 at *
  obtain ⟨K0, rfl⟩ := Int.eq_ofNat_of_zero_le d0.1
  obtain ⟨k, hk⟩ : ∃ k : Nat, (1 + (K0 : Int)) = (k : Int) := ⟨1 + K0, by simp⟩
  have hk1 : 1 ≤ k := by omega
  have hk2 : k ≤ 2 := by omega
  have d1 := withI_bd a1 (5 - (k : Int)) (by omega)
  go_upto_region 4 with fail
  clear hk d0
  have HW : Hid (∀ W, Calls Try.prog 25 #[.int .i64 a1, .int .i64 (5 - (k : Int))] W fun e w' => e = .returned (.int .i64 (withI a1 (5 - (k : Int)))) ∧ W = w') := Lib.hid (fun W => within_int a1 (5 - (k : Int)) W b1 (by omega) (by omega))
  generalize withI a1 (5 - (k : Int)) = N0 at *
  obtain ⟨N0, rfl⟩ := Int.eq_ofNat_of_zero_le d1.1
  obtain ⟨n, hn⟩ : ∃ n : Nat, ((k : Int) + (N0 : Int)) = (n : Int) := ⟨k + N0, by simp⟩
  have hkn : k ≤ n := by omega
  have hn4 : n ≤ 4 := by omega
  have HPR : Hid ((k, n) ∈ pairs) := Lib.hid (pairs_all hk1 hk2 hkn hn4)
  clear d1
  go_wp2_with fail
  refine (HW.out _).mono ?_
  rintro e w5 ⟨rfl, rfl⟩
  have hmm := @run_makeMap Try.prog
  have hF := fact_smallT hn4
  have hFp := fact_posT n
  have FC := Lib.hid (refFact_any n (by omega))
  obtain ⟨F, hFF⟩ : ∃ F, fact n = F := ⟨_, rfl⟩
  rw [hFF] at FC hF hFp
  have HFF := Lib.hid hFF
  obtain ⟨MB, hMB⟩ : ∃ MB, MB = v1.heap.size := ⟨_, rfl⟩
  have HMB : Hid (w.heap.size ≤ MB) := Lib.hid (by rw [hMB]; exact HB1.out.size)
  have HM0 : Hid (OwnsCounts Try.prog 3 3 (v1.alloc (.map #[] 0)) MB []) := Lib.hid (by rw [hMB]; exact ownsCounts_made _ _ _ v1)
  have HB3 : Hid (Below w.heap.size w (v1.alloc (.map #[] 0))) := Lib.hid (HB1.out.alloc HB1.out.size _)
  clear hFF HW b0 b1 HB1
  go_wp2_with fail
  rw [← hMB]
  generalize v1.alloc (.map #[] 0) = W3 at *
  clear hmm hMB hn
  refine (FC.out _).mono ?_
  rintro e W4 ⟨rfl, hw⟩
  subst hw
  go_wp2_with fail
  go_loopg [37] F (fun g iv wr => ∃ i : Nat, i + g = F ∧ iv = .int .i64 i ∧ Hid (OwnsCounts Try.prog 3 3 wr MB (TopPond.seen k n i)) ∧ Hid (Below w.heap.size w wr))
  case atStart => exact ⟨0, by omega, rfl, HM0, HB3⟩
  case round =>
    clear HM0 HB3
    obtain ⟨i, hi0, rfl, HM, HB⟩ := hrel
    have HI := Lib.hid hi0
    have hi : i ≤ F := by omega
    clear hi0
    by_cases hlt : i < F
    · obtain ⟨wo, hwo⟩ : ∃ wo, wo = wr := ⟨_, rfl⟩
      subst hwo
      have hiF := hlt
      have HIF := Lib.hid hlt
      go_wp2_with fail
      go_loopg [7, 8, 9] n (fun g v jv lv wr => ∃ j : Nat, j + g = n ∧ jv = .int .i64 j ∧ lv = .int .i64 ((i / fact j : Nat) : Int) ∧ Hid (Own wr wo.heap.size 3 1 v ((drawsT j i).map iC)) ∧ Hid (Below wo.heap.size wo wr))
      case atStart => exact ⟨0, by omega, rfl, by simp [fact], Lib.hid (Own.nil _ _ _ _), Lib.hid (Below.refl _ _)⟩
      case round =>
        obtain ⟨j, hj0, rfl, rfl, HV, HBo⟩ := hrel
        have HJ := Lib.hid hj0
        have hj : j ≤ n := by omega
        clear hj0
        by_cases hjn : j < n
        · obtain ⟨D, hD⟩ : ∃ D, dg i j = D := ⟨_, rfl⟩
          have hD1 := dg_le i j
          have HDS := Lib.hid (draws_succ j i)
          have e2 : ((i / fact j : Nat) : Int).tdiv ((j : Int) + 1) = ((i / fact (j + 1) : Nat) : Int) := by
            rw [show ((j : Int) + 1) = ((j + 1 : Nat) : Int) from by omega, ← left_step i j]; rfl
          have e1 : ((i / fact j : Nat) : Int).tmod ((j : Int) + 1) = (D : Int) := by
            rw [show ((j : Int) + 1) = ((j + 1 : Nat) : Int) from by omega, ← hD]; rfl
          have hq1 : i / fact j ≤ i := Nat.div_le_self _ _
          have hq2 : i / fact (j + 1) ≤ i := Nat.div_le_self _ _
          rw [hD] at hD1 HDS
          obtain ⟨q', hq'⟩ : ∃ q', i / fact (j + 1) = q' := ⟨_, rfl⟩
          rw [hq'] at e2 hq2
          have HQ := Lib.hid hq'
          clear hq'
          generalize i / fact j = q at *
          clear hD
          go_wp2_with (at_builtin; refine wpList_append_rows _ rfl _ _ 23 rfl wo.heap.size 3 _ 1 8 Try.underlying23 info_int rfl (by decide) _ ((drawsT j i).map iC) rfl (HV.out.alloc _) ⟨wr.heap.size, 0, none⟩ 1 1 [iC (D : Int)] rfl rfl (by simp [iC]) (one_row wr (iC (D : Int)) 3 _ rfl) (by simp [iC, Value.oneCell']) (by rw [List.length_map, draws_len]; omega) (by decide) (by have := HBo.out.size; simp; omega) ?_; intro v6 w6 hO6 hg6)
          go_roundg (n - (j + 1))
          case measure => have := HJ.out; omega
          case rel => exact ⟨j + 1, by omega, by go_num, by rw [HQ.out], by rw [HDS.out, List.map_append]; exact Lib.hid hO6, Lib.hid ((HV.out.alloc _).under (HBo.out.alloc HBo.out.size _) (Nat.le_refl _) (by have := HBo.out.size; simp; omega) hg6)⟩
        · obtain rfl : j = n := by omega
          clear HJ hj hjn
          obtain ⟨ad, capd, rfl, hTd⟩ := HV.out.tab
          have hVO := HV.out
          rw [List.length_map, draws_len] at hTd hVO ⊢
          have HTD := Lib.hid hTd
          have HVO := Lib.hid hVO
          clear hTd hVO
          obtain ⟨wq, hwq⟩ : ∃ wq, wq = wr := ⟨_, rfl⟩
          subst hwq
          go_wp2_with fail
          go_loopg [10, 59] j (fun g v tv wr => ∃ t : Nat, t + g = j ∧ tv = .int .i64 t ∧ Hid (Own wr wq.heap.size 3 1 v ((rowOf t).map iC)) ∧ Hid (Below wq.heap.size wq wr))
          case atStart => exact ⟨0, by omega, rfl, Lib.hid (Own.empty _ _ _), Lib.hid ((Below.refl _ _).alloc (Nat.le_refl _) _)⟩
          case round =>
            obtain ⟨t, ht0, rfl, HR, HBq⟩ := hrel
            have HJ := Lib.hid ht0
            have ht : t ≤ j := by omega
            clear ht0
            by_cases htj : t < j
            · have HRS := Lib.hid (rowOf_succ t)
              go_wp2_with (at_builtin; refine wpList_append_rows _ rfl _ _ 23 rfl wq.heap.size 3 _ 1 8 Try.underlying23 info_int rfl (by decide) _ ((rowOf t).map iC) rfl (HR.out.alloc _) ⟨wr.heap.size, 0, none⟩ 1 1 [iC (t : Int)] rfl rfl (by simp [iC]) (one_row wr (iC (t : Int)) 3 _ rfl) (by simp [iC, Value.oneCell']) (by rw [List.length_map, rowOf_len]; omega) (by decide) (by have := HBq.out.size; simp; omega) ?_; intro v6 w6 hO6 hg6)
              go_roundg (j - (t + 1))
              case measure => have := HJ.out; omega
              case rel => exact ⟨t + 1, by omega, by go_num, by rw [HRS.out, List.map_append]; exact Lib.hid hO6, Lib.hid ((HR.out.alloc _).under (HBq.out.alloc HBq.out.size _) (Nat.le_refl _) (by have := HBq.out.size; simp; omega) hg6)⟩
            · obtain rfl : t = j := by omega
              clear HJ ht htj
              have hkt : k ≤ t := hkn
              obtain ⟨ar, capr, rfl, hTr⟩ := HR.out.tab
              rw [List.length_map, rowOf_len] at hTr ⊢
              have CD := deal_ok ar ad t capr t capd (rowOf t) (drawsT t i) wr hTr (HTD.out.below HBq.out) (by rw [rowOf_len]; omega) (by rw [rowOf_len, draws_len]) (draws_ok t i)
              rw [rowOf_len] at CD
              have CD := Lib.hid CD
              have hp := deal_perm (l := rowOf t) (draws_ok t i) (by rw [draws_len, rowOf_len]) t (by rw [rowOf_len]; exact Nat.le_refl _)
              have hdl : (dealTo (rowOf t) (drawsT t i) t).length = t := by rw [hp.length_eq, rowOf_len]
              have HDL := Lib.hid hdl
              have hRO := round_ok HPR.out (i := i) (by rw [HFF.out]; exact hiF)
              unfold roundB at hRO
              simp only [Bool.and_eq_true, beq_iff_eq] at hRO
              have HRO := Lib.hid hRO
              have hrk := ranks_ok HPR.out (i := i) (by rw [HFF.out]; exact hiF)
              have hdk : (dealt k t i).length ≤ 2 := by unfold dealt; rw [List.length_take]; omega
              have HDK := Lib.hid hdk
              have HB0 := Lib.hid (below_on HBo.out HBq.out)
              have HRK := Lib.hid hrk
              clear hp hdl hRO hTr HR hdk hrk
              go_wp2_with fail
              refine CD.out.mono ?_
              rintro e w5 ⟨s5, rfl, hO5, hb5⟩
              obtain ⟨q5, cap5, rfl, hT5⟩ := hO5.tab
              rw [List.length_map, HDL.out] at hT5 ⊢
              have hle5 := hT5.hle
              have hm5 := hT5.hmax
              unfold maxLen at hm5
              have hT5k := hT5.upto_ k hkt
              rw [← List.map_take] at hT5k
              have HB5 := Lib.hid (below_on HB0.out hb5)
              have HX6 := Lib.hid (hb5.alloc hb5.size (.cells #[.slice q5 k cap5] 23))
              have rU := run_upto 23 3 1 Try.underlying23 elem_intTP size_intTP q5 t cap5 k (by omega)
              have hB6 : (w5.alloc (.cells #[.slice q5 k cap5] 23)).cell? ⟨w5.heap.size, 0, none⟩ = some (.slice q5 k cap5) := cell_blk (MapKept.heap_alloc _ _).1 rfl
              have CS := Lib.hid (sorted_call w5.heap.size q5 k cap5 (dealt k t i) _ hB6 (by simp) (hT5k.below ((Below.refl _ _).alloc (Nat.le_refl _) _)) (by omega) (by omega))
              have HB6 := Lib.hid (HB5.out.alloc HB5.out.size (.cells #[.slice q5 k cap5] 23))
              clear hO5 hb5 hT5 hT5k hB6 CD
              go_wp2_with fail
              refine (values_call _ _ _ _).mono ?_
              rintro e w6 ⟨rfl, hw6⟩
              subst hw6
              go_wp2_with fail
              refine CS.out.mono ?_
              rintro e w7 ⟨s7, rfl, hO7, hb7⟩
              have CR := Lib.hid (rank_ofT hO7 HDK.out (by omega) HRO.out.1.1.1)
              rw [show rankFrom 0 (nats (srt (dealt k t i))) = dealR k t i from rfl] at CR
              have HB7 := Lib.hid (below_on HB6.out hb7)
              have HX7 := Lib.hid (below_on HX6.out hb7)
              clear hO7 hb7 CS rU
              go_wp2_with fail
              refine CR.out.mono ?_
              rintro e w8 ⟨rfl, hw8⟩
              subst hw8
              have HM7 := Lib.hid (HM.out.below HB7.out)
              have hd1 := HRK.out.1
              have HSN : Hid (TopPond.seen k t (i + 1) = (pondR k t i : Int) :: (dealR k t i : Int) :: TopPond.seen k t i) := Lib.hid rfl
              have hcl : (TopPond.seen k t i).count (dealR k t i : Int) ≤ 48 := Nat.le_trans List.count_le_length (by rw [seen_lenT]; omega)
              have hky := keyTP (dealR k t i : Int) (by omega)
              have hlook := HM7.out.look lawTP Try.underlying63 Try.underlying3 (zeroTP _) hky
              have HLE : Hid ((TopPond.seen k t i).length < 1000000) := Lib.hid (by rw [seen_lenT]; omega)
              have HKY := Lib.hid hky
              generalize dealR k t i = d1 at *
              clear hky CR
              go_wp2_with (at_mapUpdate; refine wpList_count _ rfl _ _ _ 63 rfl 3 3 lawTP Try.underlying63 Try.underlying3 MB (TopPond.seen k t i) rfl HM7.out HLE.out (d1 : Int) rfl rfl HKY.out ?_; intro w9 hc9 hg9)
              have HBW := Lib.hid ((below_on HB.out HB7.out).grown hg9 (below_on HB.out HB7.out).size (fun q hq => by cases hq; exact HMB.out))
              have HM9 := Lib.hid hc9
              have hV7 := HVO.out.below (below_on HBq.out HX7.out)
              have hML := HM.out.lt
              have hV9 : Own w9 wo.heap.size 3 1 (.slice ad t capd) ((drawsT t i).map iC) := ⟨hV7.own.kept hg9 (Or.inr (fun e => by have := (hV7.own.lt MB e).1; omega)), hV7.rows⟩
              have HT9 := Lib.hid hV9.tab_of
              have HP0 := Lib.hid (PVar.new (w := w9) (wr := w9) k 0 (Below.refl _ _))
              clear hc9 hg9 hV7 hV9 hML hlook hcl hd1
              go_wp2_with fail
              generalize hW0 : w9.alloc (.cells #[.int .i64 k, .int .i64 0, .slice none 0 0] 71) = W0 at *
              generalize hPP : w9.heap.size = P at *
              clear hW0
              have HPS := Lib.hid hPP
              clear hPP
              go_loopg [95] t (fun g jv wr => ∃ (j : Nat) (v : Value), j + g = t ∧ jv = .int .i64 j ∧ Hid (PVar w9 wr P k j v (itemsT k i j)))
              case atStart => exact ⟨0, _, by omega, rfl, HP0⟩
              case round =>
                clear HP0
                obtain ⟨j, v, hj0, rfl, HP⟩ := hrel
                have HJ := Lib.hid hj0
                have hj : j ≤ t := by omega
                clear hj0
                have hlj := items_lenT k i j
                obtain ⟨len, hlen⟩ : ∃ len, min k j = len := ⟨_, rfl⟩
                rw [hlen] at hlj
                obtain ⟨aj, cj, rfl, hTj⟩ := HP.out.own.tab
                rw [List.length_map, hlj] at hTj HP
                obtain ⟨⟨c0, c1, c2⟩, f0, f1, f2⟩ := pond_cells HP.out.blk
                have hbj := HP.out.big
                by_cases hlt : j < t
                · have hdj := dg_le i j
                  have hE : putE k j len (dg i j : Nat) = 0 := by
                    by_cases h : j < k
                    · rw [show len = j from by omega]; exact putE_part hk1 (by omega) h (by omega) (by omega)
                    · rw [show len = k from by omega]; exact putE_full hk1 (by omega) (by omega) (by omega) (by omega) (by omega)
                  have C := put_ok k j aj len cj (itemsT k i j) j (dg i j) wr hTj hE
                  rw [show pondL k (j : Nat) (itemsT k i j) (j : Nat) (dg i j) = itemsT k i (j + 1) from rfl] at C
                  unfold pondV at C
                  have C := Lib.hid C
                  obtain ⟨b1, o1, ha, hbs, cd⟩ := HT9.out.one HP.out.bel (map_get (draws_get hlt))
                  subst ha
                  generalize dg i j = dd at *
                  clear hE hTj hlj hlen
                  go_wp2_with fail
                  refine C.out.mono ?_
                  rintro e w1 ⟨s1, rfl, hO1, hb1⟩
                  obtain ⟨q1, cap1, rfl, hT1⟩ := hO1.tab
                  rw [List.length_map] at hO1 ⊢
                  obtain ⟨n1, hn1⟩ : ∃ n1, (itemsT k i (j + 1)).length = n1 := ⟨_, rfl⟩
                  rw [hn1] at hO1 ⊢
                  clear c0 c1 c2 f0 f1 f2 hn1 hT1 C
                  obtain ⟨⟨c0, c1, c2⟩, f0, f1, f2⟩ := pond_cells (HP.out.below hb1).blk
                  have HPN := Lib.hid ((HP.out.below hb1).set (K' := k) (S' := (j : Int) + 1) hO1 hbj)
                  clear hO1 hb1
                  go_wp2_with fail
                  go_roundg (t - (j + 1))
                  case measure => have := HJ.out; omega
                  case rel => exact ⟨j + 1, _, by omega, by go_num, HPN⟩
                · obtain rfl : j = t := by omega
                  obtain rfl : k = len := by omega
                  have hB6 : (wr.alloc (.cells #[.slice aj k cj] 23)).cell? ⟨wr.heap.size, 0, none⟩ = some (.slice aj k cj) := cell_blk (MapKept.heap_alloc _ _).1 rfl
                  have CS := Lib.hid (sorted_call wr.heap.size aj k cj (itemsT k i j) _ hB6 (by simp) (hTj.below ((Below.refl _ _).alloc (Nat.le_refl _) _)) (by omega) (by omega))
                  have HB6 := Lib.hid (HP.out.bel.alloc HP.out.bel.size (.cells #[.slice aj k cj] 23))
                  have HIL : Hid ((itemsT k i j).length ≤ 2) := Lib.hid (by rw [items_lenT]; omega)
                  clear hB6 hTj hlj hlen HJ hj hlt
                  go_wp2_with fail
                  refine (values_call _ _ _ _).mono ?_
                  rintro e w6 ⟨rfl, hw6⟩
                  subst hw6
                  go_wp2_with fail
                  refine CS.out.mono ?_
                  rintro e wz ⟨sz, rfl, hOz, hbz⟩
                  have CR := Lib.hid (rank_ofT hOz HIL.out (by omega) HRO.out.1.2)
                  rw [show rankFrom 0 (nats (srt (itemsT k i j))) = pondR k j i from rfl] at CR
                  have HBz := Lib.hid (below_on HB6.out hbz)
                  clear hOz hbz CS
                  go_wp2_with fail
                  refine CR.out.mono ?_
                  rintro e w8 ⟨rfl, hw8⟩
                  subst hw8
                  have HMz := Lib.hid (HM9.out.below HBz.out)
                  have hd2 := HRK.out.2
                  have hcl : ((d1 : Int) :: TopPond.seen k j i).count (pondR k j i : Int) ≤ 49 := Nat.le_trans List.count_le_length (by rw [List.length_cons, seen_lenT]; omega)
                  have hky := keyTP (pondR k j i : Int) (by omega)
                  have hlook := HMz.out.look lawTP Try.underlying63 Try.underlying3 (zeroTP _) hky
                  have HLZ : Hid (((d1 : Int) :: TopPond.seen k j i).length < 1000000) := Lib.hid (by rw [List.length_cons, seen_lenT]; omega)
                  have HKZ := Lib.hid hky
                  generalize pondR k j i = d2 at *
                  clear hky CR c0 c1 c2 f0 f1 f2
                  go_wp2_with (at_mapUpdate; refine wpList_count _ rfl _ _ _ 63 rfl 3 3 lawTP Try.underlying63 Try.underlying3 MB ((d1 : Int) :: TopPond.seen k j i) rfl HMz.out HLZ.out (d2 : Int) rfl rfl HKZ.out ?_; intro wy hcy hgy)
                  go_roundg (F - (i + 1))
                  case measure => have := HI.out; omega
                  case rel => exact ⟨i + 1, by omega, by go_num, by rw [HSN.out]; exact Lib.hid hcy, Lib.hid ((below_on HBW.out HBz.out).grown hgy (below_on HBW.out HBz.out).size (fun q hq => by cases hq; exact HMB.out))⟩
    · obtain rfl : i = F := by omega
      have hL := fun ty => HM.out.len Try.underlying63 ty
      have hkd : kinds (TopPond.seen k n i) = binom n k := by rw [← HFF.out]; exact kinds_ok HPR.out
      rw [hkd] at hL
      have HWY := Lib.hid (ways_ok n k (by omega) hkn wr)
      obtain ⟨D, hD1, hD2, hD3, hD4⟩ := HM.out
      rw [hkd] at hD2
      have HD := Lib.hid (And.intro hD3 hD4)
      have HO := Lib.hid (And.intro hD1 hD2)
      have HCT : Hid (∀ z ∈ TopPond.seen k n i, (TopPond.seen k n i).count z * binom n k = 2 * i ∧ z < (binom n k : Int)) := Lib.hid (fun z hz => by have h := count_ok HPR.out (z := z) (by rw [HFF.out]; exact hz); rw [HFF.out] at h; exact h)
      generalize binom n k = Bn at *
      have t1 : ((Bn : Int) != (Bn : Int)) = false := by simp
      clear hD1 hD2 hD3 hD4 hkd HM HI
      go_wp2_with fail
      refine HWY.out.mono ?_
      rintro e w6 ⟨rfl, hw6⟩
      subst hw6
      go_wp2_with (at_range; refine wpList_range_own _ rfl _ 63 rfl 3 3 lawTP Try.underlying63 _ MB _ D rfl HO.out.1 ?_; intro w7 hrg7 hg7 hs7)
      go_frame
      obtain ⟨wq, hwq⟩ : ∃ wq, wq = wr := ⟨_, rfl⟩
      subst hwq
      have HB7 : Hid (Below wq.heap.size wq w7) := Lib.hid ((Below.refl _ _).grown hg7 (Nat.le_refl _) (fun q hq => by cases hq))
      have HRG : Hid (w7.ranges Try.prog 3 (plainElem Try.prog 3) MB wq.heap.size (TopPond.seen k n i).length D (Maps.has D) Bn) := by
        rw [HO.out.2] at hrg7
        exact Lib.hid hrg7
      clear hrg7 hg7 hs7 hL t1 HWY
      go_loopg [22] Bn (fun g s wx => ∃ (left : Lit → Bool) (cnt : Nat), Hid (cnt ≤ g) ∧ Hid (wx.ranges Try.prog 3 (plainElem Try.prog 3) MB wq.heap.size (TopPond.seen k n i).length D left cnt) ∧ Hid (∀ kl, left kl = true → Maps.has D kl = true) ∧ Hid (Below wq.heap.size wq wx))
      case atStart => exact ⟨_, _, Lib.hid (Nat.le_refl _), HRG, Lib.hid (fun _ h => h), HB7⟩
      case round =>
        clear HRG HB7
        obtain ⟨left, cnt, HG, HR, HL, HBr⟩ := hrel
        go_wp2_with (at_next; refine wpList_next_ranges_ii _ rfl _ rfl 3 3 .i64 .i64 lawTP Try.underlying3 Try.underlying3 MB wq.heap.size _ D left cnt rfl HR.out ?_ ?_)
        · intro hc0 hl0
          go_wp2
          go_ret
          exact ⟨rfl, below_on HB.out HBr.out⟩
        · intro x c w1 cnt1 hwx hwc hlx hat hrg1 hlt1 hg1 hs1 hen
          have hx : x ∈ TopPond.seen k n i := by
            have h := HL.out _ hlx
            rw [HD.out.2 x] at h
            exact of_decide_eq_true h
          have hc : c = ((TopPond.seen k n i).count x : Nat) := by
            have h := hat (.lit (.int .i64 0))
            rw [HD.out.1 x] at h
            simp only [DataW.lit.injEq, Lit.int.injEq, true_and] at h
            exact h.symm
          have hm := HCT.out x hx
          have hm2 := hm.2
          have hp : (((TopPond.seen k n i).count x : Nat) : Int) * (Bn : Int) = 2 * (i : Int) := by rw [← Int.natCast_mul, hm.1]; omega
          have hb1 : Below wq.heap.size wq w1 := HBr.out.grown hg1 HBr.out.size (fun q hq => by cases hq; exact Nat.le_refl _)
          have HR1 := Lib.hid hrg1
          have HB1 := Lib.hid hb1
          have HC1 := Lib.hid hlt1
          have HL1 : Hid (∀ kl, (left kl && !kl.sameKey (.int .i64 x)) = true → Maps.has D kl = true) := Lib.hid (fun kl h => HL.out kl (by rw [Bool.and_eq_true] at h; exact h.1))
          generalize (TopPond.seen k n i).count x = m at *
          subst hc
          have t2 : ((2 * (i : Int)) != (2 * (i : Int))) = false := by simp
          clear hwx hwc hlx hat hrg1 hlt1 hg1 hs1 hb1 hx hm
          go_wp2_with fail
          refine (FC.out _).mono ?_
          rintro e w8 ⟨rfl, rfl⟩
          go_wp2_with fail
          go_roundg cnt1
          case measure => have h1 := HG.out; have h2 := HC1.out; omega
          case rel => exact ⟨_, cnt1, Lib.hid (Nat.le_refl _), HR1, HL1, HB1⟩

/-! ### THE ROW's STEP: WRITTEN OUT: LEAVE IT -/
set_option maxRecDepth 100000 in
theorem lifted (os : Os) (started : os.Started) (H : Type) (enc : TypeId × Value → H) :
    ReturnsInHanded {} Try.checked os 11 .any (Rows.topPondSpec.pre6 enc Try.prog Try.f11 Rows.topPondRow.domain false) (Rows.topPondSpec.post enc Try.prog Try.f11 false true false false) := by
  refine returnsInHanded_of_change (C := Try.checked) own started (by kernel_rfl) Try.func11
    (ChangeSpec.witness6 (enc := enc) (C := Try.checked) false ⟨#[], #[.int .i64 0, .int .i64 0], []⟩ 8 (by kernel_rfl) (by kernel_rfl) (by kernel_rfl) (by kernel_rfl)) ?_
  intro W base args ds gs before hval0 hW hcnd _
  have hval : ∀ (j : Nat) t v, Try.f11.params[j]? = some t → args[j]? = some v → Value.okWide Try.prog W .any base t v := hval0
  have hW' := hW
  obtain ⟨p, q, hA0, hV, rfl, hfz, hnd⟩ := hW
  have hA : DataW.TrodAll enc Try.prog W 0 (fun _ => true) true Try.f11.params.toList args.toList ds p := hA0
  rw [Try.params11] at hA hval
  obtain ⟨v0, vs0, d0, ds0, p0, q0, hargs, rfl, rfl, h0, r0⟩ := trodAll_cons hA
  obtain ⟨v1, vs1, d1, ds1, p1, q1, rfl, rfl, rfl, h1, r1⟩ := trodAll_cons r0
  obtain ⟨rfl, rfl, rfl⟩ := trodAll_nil r1
  obtain rfl : args = #[v0, v1] := by cases args; simp_all
  obtain ⟨rfl, rfl⟩ := trodVars_none hV
  obtain ⟨a0, rfl, rfl, rfl, w0⟩ := open_int Try.underlying3 (hval 0 3 v0 rfl rfl) h0
  obtain ⟨a1, rfl, rfl, rfl, w1⟩ := open_int Try.underlying3 (hval 1 3 v1 rfl rfl) h1
  clear hA0 hval0
  simp only [List.append_nil] at hW'
  refine (walk a0 a1 w0 w1 W).mono fun e W' ⟨he, hg⟩ => ?_
  subst he
  exact ⟨_, rfl, _, _, _, [], _, [], hW', (trodAll_cons_mk (shut_bool Try.underlying4 _) trodAll_mk0), (trodAll_cons_mk (shut_int Try.underlying3 w0) (trodAll_cons_mk (shut_int Try.underlying3 w1) trodAll_mk0)), rfl, hg.frame _, fun h => by cases h⟩

theorem over : Rows.topPondRow.holds Try.pinned (OpenSpec.ofChange Rows.topPondSpec) :=
  OpenClaim.holds_of_wide 11 Try.f11 rfl rfl rfl rfl rfl rfl rfl ⟨rfl, rfl, rfl, rfl, rfl⟩ rfl rfl rfl rfl rfl (by kernel_rfl) Try.func11 (by kernel_rfl)
    (of_decide_eq_true (by kernel_rfl)) (by unfold Func.isWrapper; first | (rw [if_pos (by decide +kernel)]; kernel_rfl) | (rw [if_neg (by decide +kernel)]; exact ⟨rfl, rfl⟩))
    (fun os started H enc _ => lifted os started H enc)

/-- ████ THE STATEMENT ████ -/
theorem proved : Rows.TopPondSaid :=
  over
#print axioms proved
end Go.Proofs.Ytoijeafhohcbdaa.topPond
