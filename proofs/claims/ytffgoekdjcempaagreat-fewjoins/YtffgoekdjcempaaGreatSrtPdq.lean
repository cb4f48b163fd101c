/- sort.pdqsort over any value of less than fifty elements that sort.Sort can take: it leaves the row sorted as the library's own sort does. -/
import Derived.Test.YtffgoekdjcempaaGreatSrtHeapSort
import Derived.Test.YtffgoekdjcempaaGreatSrtPivot
import Derived.Test.YtffgoekdjcempaaGreatSrtSplit
import Derived.Test.YtffgoekdjcempaaGreatSrtPartition
import Derived.Test.YtffgoekdjcempaaGreatSrtBreak
import Derived.Sort.Walk13a
import Derived.Sort.LotD4
import Derived.Sort.AssemblyPlain
import Derived.Deep.DeepCutAuto
namespace Go.Proofs.YtffgoekdjcempaaGreat
open Go.ChangeShapes Go.WideShapes Go.ChangeAt Go.RowKit

theorem hintN_two {h : Sort.Hint} (e : hintN h = 2) : h = .decreasing := by cases h <;> simp [hintN] at e ⊢
theorem eighth_s {x y p q : Nat} (h1 : q ≤ p) (h2 : y ≤ x) : decide (((x : Int) - (y : Int)) / 8 ≤ (p : Int) - (q : Int)) = decide (p - q ≥ (x - y) / 8) :=
  decide_eq_decide.2 ⟨fun h => by omega, fun h => by omega⟩

theorem pdq_small_of {lt : Int → Int → Bool} {d D : Array Int} {a b limit : Nat} {wb wp : Bool} (h : Sort.pdq lt d a b limit wb wp = D) (h0 : b - a ≤ 12) : Sort.insertionSort lt d a b = D := (Sort.pdq_small h0).symm.trans h
theorem pdq_heap_of {lt : Int → Int → Bool} {d D : Array Int} {a b : Nat} {wb wp : Bool} (h : Sort.pdq lt d a b 0 wb wp = D) (h0 : ¬ b - a ≤ 12) : Sort.heapSort lt d a b = D := (Sort.pdq_heap h0 rfl).symm.trans h

variable {S : World → Array Int → Prop} {base : Nat} {T : TypeId} {rv : Value} {lt : Int → Int → Bool} {n : Nat}

set_option maxRecDepth 1000000 in
set_option maxHeartbeats 8000000 in
theorem pdqsort_s (H : Srt S base T rv lt n) (hW : Sort.SWO lt) : ∀ (N a b limit : Nat) (d : Array Int) (w : World), b - a < N → S w d → a ≤ b → b ≤ n → limit ≤ 1000 → Sort.Below lt a b d →
    Calls Tryz.prog 45 #[.iface T rv, .int .i64 a, .int .i64 b, .int .i64 limit] w fun e w' => e = .returned (.tuple #[]) ∧ S w' (Sort.pdq lt d a b limit true true) := by
  intro N
  induction N with
  | zero => intro _ _ _ _ _ h; exact absurd h (Nat.not_lt_zero _)
  | succ N ih =>
    intro a b limit d w hN hS hab hb hlimit hBel0
    have hm := H.most
    have IH := Lib.hid ih
    have HW := Lib.hid hW
    have HH := Lib.hid H
    have HS0 := Lib.hid hS
    have HB0 := Lib.hid hBel0
    clear ih H hS hBel0
    obtain ⟨D, hD⟩ : ∃ D, Sort.pdq lt d a b limit true true = D := ⟨_, rfl⟩
    rw [hD]
    have HD0 := Lib.hid hD
    clear hD
    go_enter Tryz.func45, Tryz.ntmps45
    go_wp2
    go_loopg [1, 2, 3, 8, 9] (b - a) (fun k s1 s2 s3 s8 s9 wr => ∃ (a' b' lim : Nat) (wb wp : Bool) (dk : Array Int), s1 = .int .i64 a' ∧ s2 = .int .i64 b' ∧ s3 = .int .i64 lim ∧ s8 = .bool wb ∧ s9 = .bool wp ∧
      a' ≤ b' ∧ b' ≤ n ∧ b' - a' ≤ k ∧ k ≤ b - a ∧ lim ≤ limit ∧ Hid (Sort.Below lt a' b' dk) ∧ Hid (S wr dk) ∧ Hid (Sort.pdq lt dk a' b' lim wb wp = D))
    case atStart => exact ⟨a, b, limit, true, true, d, rfl, rfl, rfl, rfl, rfl, hab, hb, Nat.le_refl _, Nat.le_refl _, Nat.le_refl _, HB0, HS0, HD0⟩
    case round =>
      clear HB0 HS0 HD0
      obtain ⟨a', b', lim, wb, wp, dk, rfl, rfl, rfl, rfl, rfl, hab', hb', hk, hkN, hlim, hBel, HS, HD⟩ := hrel
      have hds : dk.size = n := HH.out.size HS.out
      by_cases h12 : b' - a' ≤ 12
      · have h12z : (b' : Int) - (a' : Int) ≤ 12 := by omega
        have C := Lib.hid (insertionSort_s HH.out a' b' dk wr HS.out hab' hb')
        go_wp2_with (go_at_call 70; refine C.out.mono ?_; rintro e w1 ⟨rfl, hs1⟩)
        (try simp only [Exit.inBlock, Exit.then]); refine bodyPost_ret (results_none rfl _ _ _) rfl ?_
        exact ⟨rfl, by rw [← pdq_small_of HD.out h12]; exact hs1⟩
      · have h12z : ¬ ((b' : Int) - (a' : Int) ≤ 12) := by omega
        by_cases hl0 : lim = 0
        · subst hl0
          have C := Lib.hid (heapSort_s HH.out a' b' dk wr HS.out (by omega) hb')
          go_wp2_with (go_at_call 71; refine C.out.mono ?_; rintro e w1 ⟨rfl, hs1⟩)
          (try simp only [Exit.inBlock, Exit.then]); refine bodyPost_ret (results_none rfl _ _ _) rfl ?_
          exact ⟨rfl, by rw [← pdq_heap_of HD.out h12]; exact hs1⟩
        · have hl0z : ¬ ((lim : Int) = 0) := by omega
          have hF := Lib.hid (Sort.rd_facts (limit := lim) (wb := wb) (wp := wp) HW.out Sort.partialInsertionSort_holds Sort.reverseRange_holds (show a' < b' by omega) (show b' ≤ dk.size by omega) hBel.out)
          have q0 := Lib.hid (Sort.rd_lim_le (lt := lt) (d := dk) (a := a') (b := b') (limit := lim) (wb := wb) (wp := wp))
          have q1 := Lib.hid (fun h : wb = false => (show (Sort.rd lt dk a' b' lim wb wp).d1 = Sort.breakPatterns dk a' b' ∧ (Sort.rd lt dk a' b' lim wb wp).lim = lim - 1 from by subst h; exact Sort.rd_false))
          have q2 := Lib.hid (fun h : wb = true => (show (Sort.rd lt dk a' b' lim wb wp).d1 = dk ∧ (Sort.rd lt dk a' b' lim wb wp).lim = lim from by subst h; exact Sort.rd_true))
          have q3 := Lib.hid (Sort.rd_c (lt := lt) (d := dk) (a := a') (b := b') (limit := lim) (wb := wb) (wp := wp))
          have q4 := Lib.hid (Sort.rd_dec (lt := lt) (d := dk) (a := a') (b := b') (limit := lim) (wb := wb) (wp := wp))
          have q5 := Lib.hid (Sort.rd_not (lt := lt) (d := dk) (a := a') (b := b') (limit := lim) (wb := wb) (wp := wp))
          have q6 := Lib.hid (Sort.rd_pi_yes (lt := lt) (d := dk) (a := a') (b := b') (limit := lim) (wb := wb) (wp := wp))
          have q7 := Lib.hid (Sort.rd_pi_no (lt := lt) (d := dk) (a := a') (b := b') (limit := lim) (wb := wb) (wp := wp))
          have q8 := Lib.hid (Sort.pdq_done (lt := lt) (d := dk) (a := a') (b := b') (limit := lim) (wb := wb) (wp := wp) h12 hl0)
          have q9 := Lib.hid (Sort.pdq_eq (lt := lt) (d := dk) (a := a') (b := b') (limit := lim) (wb := wb) (wp := wp) h12 hl0)
          have q10 := Lib.hid (Sort.pdq_left (lt := lt) (d := dk) (a := a') (b := b') (limit := lim) (wb := wb) (wp := wp) h12 hl0)
          have q11 := Lib.hid (Sort.pdq_right (lt := lt) (d := dk) (a := a') (b := b') (limit := lim) (wb := wb) (wp := wp) h12 hl0)
          generalize Sort.rd lt dk a' b' lim wb wp = R at hF q0 q1 q2 q3 q4 q5 q6 q7 q8 q9 q10 q11
          obtain ⟨d1, li, ⟨c1, c2⟩, d2, pv, hi, ⟨d3, pp⟩⟩ := R
          replace hF := hF.out
          have q0 := q0.out
          simp only at hF q0 q1 q2 q3 q4 q5 q6 q7 q8 q9 q10 q11
          obtain ⟨s1, _, hc1, s2, _, hpv, s3, B3⟩ := hF
          have HB3 := Lib.hid B3
          clear B3 hBel
          go_upto_if 35 with fail
          go_cut [3] from 19 (fun s3 wc => s3 = .int .i64 (li : Nat) ∧ Hid (S wc d1))
          case first =>
            cases wb
            · have C := Lib.hid (breakPatterns_s HH.out a' b' dk wr HS.out (by omega) hb')
              rw [← (q1.out rfl).1] at C
              have hli := (q1.out rfl).2
              go_wp2_with (go_at_call 72; refine C.out.mono ?_; rintro e w1 ⟨rfl, hs1⟩; have HS1 := Lib.hid hs1; clear hs1)
              go_meet
              case rel =>
                refine ⟨?_, HS1⟩
                congr 1
                omega
            · have h1 := (q2.out rfl).1
              have h2 := (q2.out rfl).2
              subst h1 h2
              go_wp2_with fail
              go_meet
              case rel => exact ⟨rfl, HS⟩
          case rest =>
            obtain ⟨rfl, HS1⟩ := hcut
            clear HS
            have C := choosePivot_s HH.out a' b' d1 wc HS1.out (by omega) hb'
            rw [← q3.out] at C
            replace C := Lib.hid C
            go_upto_if 50 with (go_at_call 73; refine C.out.mono ?_; rintro e w2 ⟨rfl, hs2⟩; have HS2 := Lib.hid hs2; clear hs2)
            clear HS1
            go_cut [11, 12] from 19 (fun s11 s12 wc => s11 = .int .i64 (pv : Nat) ∧ s12 = .int .i64 (hintN hi) ∧ Hid (S wc d2))
            case first =>
              by_cases hh : c2 = .decreasing
              · obtain ⟨e2, epv, eht⟩ := q4.out hh
                subst hh e2 eht
                have C2 := Lib.hid (reverseRange_s HH.out a' b' d1 w2 HS2.out (by omega) hb')
                go_wp2_with (go_at_call 74; refine C2.out.mono ?_; rintro e w3 ⟨rfl, hs3⟩; have HS3 := Lib.hid hs3; clear hs3)
                go_meet
                case rel =>
                  refine ⟨?_, rfl, HS3⟩
                  rw [epv]
                  congr 1
                  omega
              · have hcode : ¬ (hintN c2 = 2) := fun h => hh (hintN_two h)
                obtain ⟨e2, epv, eht⟩ := q5.out hh
                subst e2 epv eht
                go_wp2_with fail
                go_meet
                case rel => exact ⟨rfl, rfl, HS2⟩
            case rest =>
              obtain ⟨rfl, rfl, HS3⟩ := hcut
              clear HS2
              go_upto_region 15 with fail
              go_cut [12, 68] from 19 (fun s12 s68 wx => s12 = .int .i64 (hintN hi) ∧ s68 = .bool (wb && wp && decide (hi = .increasing)) ∧ wx = wc)
              case first =>
                cases wb <;> cases wp <;> cases hi <;>
                  (go_wp2_with fail
                   go_meet
                   exact ⟨rfl, rfl, rfl⟩)
              case rest =>
                obtain ⟨rfl, rfl, rfl⟩ := hcut
                go_upto_if 68 with fail
                go_cut [] from 19 (fun wx => Hid (pp = false) ∧ Hid (S wx d3))
                case first =>
                  cases h68 : (wb && wp && decide (hi = .increasing))
                  · obtain ⟨e3, e4⟩ := Prod.mk.inj (q7.out h68)
                    subst e3 e4
                    go_wp2_with fail
                    go_meet
                    case rel => exact ⟨by first | exact Lib.hid rfl | exact Lib.hid trivial, HS3⟩
                  · have C3 := partialInsertionSort_s HH.out a' b' d2 wc HS3.out (by omega) hb'
                    rw [← q6.out h68] at C3
                    simp only at C3
                    replace C3 := Lib.hid C3
                    cases pp
                    · go_wp2_with (go_at_call 75; refine C3.out.mono ?_; rintro e w4 ⟨rfl, hs4⟩; have HS4 := Lib.hid hs4; clear hs4)
                      go_meet
                      exact ⟨by first | exact Lib.hid rfl | exact Lib.hid trivial, HS4⟩
                    · go_wp2_with (go_at_call 75; refine C3.out.mono ?_; rintro e w4 ⟨rfl, hs4⟩; have HS4 := Lib.hid hs4; clear hs4)
                      (try simp only [Exit.inBlock, Exit.then]); refine bodyPost_ret (results_none rfl _ _ _) rfl ?_
                      exact ⟨rfl, by rw [← HD.out, q8.out (by trivial)]; exact HS4.out⟩
                case rest =>
                  obtain ⟨hp2, HS5⟩ := hcut
                  clear HS3
                  obtain rfl := hp2.out
                  clear hp2
                  go_upto_region 17 with fail
                  go_cut [82] from 19 (fun s82 wx => s82 = .bool (decide (a' > 0) && !lt d3[a' - 1]! d3[pv]!) ∧ Hid (S wx d3))
                  case first =>
                    rcases Nat.eq_zero_or_pos a' with ha0 | ha0
                    · have ha0z : decide ((a' : Int) > 0) = false := decide_eq_false (by omega)
                      have ha1 : ¬ (0 < (a' : Int)) := by omega
                      have ha2 : ¬ (0 < a') := by omega
                      have ha3 : decide (0 < a') = false := decide_eq_false ha2
                      have HA := Lib.hid ha0
                      clear ha0
                      go_wp2_with fail
                      go_meet
                      case rel => exact ⟨by simp [HA.out], HS5⟩
                    · have ha0z : decide ((a' : Int) > 0) = true := decide_eq_true (by omega)
                      obtain ⟨f, r, mL, eL, cL⟩ := HH.out.less (a' - 1) pv HS5.out (by omega) (by omega)
                      rw [show ((a' - 1 : Nat) : Int) = (a' : Int) - 1 from by omega] at cL
                      have CL := Lib.hid cL
                      clear cL
                      go_wp2_with (go_at_fn f; refine CL.out.mono ?_; rintro e w1 ⟨rfl, hb1⟩; have HS6 := Lib.hid (HH.out.on HS5.out hb1); clear hb1)
                      go_meet
                      case rel => exact ⟨by rw [show decide (a' > 0) = true from decide_eq_true ha0, Bool.true_and], HS6⟩
                  case rest =>
                    obtain ⟨rfl, HS6⟩ := hcut
                    clear HS5
                    have q9 := q9.out rfl
                    have q10 := q10.out rfl
                    have q11 := q11.out rfl
                    cases h87 : (decide (a' > 0) && !lt d3[a' - 1]! d3[pv]!)
                    · obtain ⟨mid, ap, d4, hx⟩ : ∃ mid ap d4, Sort.partition lt d3 a' b' pv = (mid, ap, d4) := ⟨(Sort.partition lt d3 a' b' pv).1, (Sort.partition lt d3 a' b' pv).2.1, (Sort.partition lt d3 a' b' pv).2.2, rfl⟩
                      obtain ⟨r1, r2, r3, r4, r5, r6, r7⟩ := Sort.round_part HW.out (Sort.partition_holds lt) hpv.1 hpv.2 (show b' ≤ d3.size by omega) HB3.out hx
                      have C7 := partition_s HH.out a' b' pv d3 wc HS6.out (by omega) hb' (by omega)
                      rw [hx] at C7 q10 q11
                      simp only at C7 q10 q11
                      replace C7 := Lib.hid C7
                      have Q10 := Lib.hid (q10 h87 ⟨r1, r2⟩)
                      have Q11 := Lib.hid (q11 h87 ⟨r1, r2⟩)
                      have R4 := Lib.hid r4
                      have R5 := Lib.hid r5
                      have R6 := Lib.hid r6
                      have R7 := Lib.hid r7
                      clear hx q9 q10 q11 r4 r5 r6 r7 h87
                      go_upto_if 108 with (go_at_call 77; refine C7.out.mono ?_; rintro e w7 ⟨rfl, hs7⟩; have HS7 := Lib.hid hs7; clear hs7)
                      clear HS6
                      by_cases h4 : mid - a' < b' - mid
                      · have h4z : (mid : Int) - (a' : Int) < (b' : Int) - (mid : Int) := by omega
                        have hih := Lib.hid (IH.out a' mid li d4 w7 (by omega) HS7.out (by omega) (by omega) (by omega) R4.out)
                        obtain ⟨pL, sL⟩ := Sort.pdq_sorts lt HW.out d4 a' mid li true true (by omega) (by omega) R4.out
                        have HBn := Lib.hid (R6.out _ pL sL).1
                        have HDn := Lib.hid ((Q10.out h4).symm.trans HD.out)
                        clear pL sL
                        go_wp2_with (go_at_call 45; refine hih.out.mono ?_; rintro e w8 ⟨rfl, hs8⟩; have HS8 := Lib.hid hs8; clear hs8)
                        go_roundg (b' - (mid + 1))
                        case measure => omega
                        case rel =>
                          refine ⟨mid + 1, b', li, decide (mid - a' ≥ (b' - a') / 8), ap, _, by go_num, rfl, rfl, ?_, rfl, by omega, by omega, Nat.le_refl _, by omega, by omega, HBn, HS8, HDn⟩
                          exact congrArg Value.bool (eighth_s (by omega) (by omega))
                      · have h4z : ¬ ((mid : Int) - (a' : Int) < (b' : Int) - (mid : Int)) := by omega
                        have hih := IH.out (mid + 1) b' li d4 w7 (by omega) HS7.out (by omega) (by omega) (by omega) R5.out
                        rw [show ((mid + 1 : Nat) : Int) = (mid : Int) + 1 from by omega] at hih
                        replace hih := Lib.hid hih
                        obtain ⟨pL, sL⟩ := Sort.pdq_sorts lt HW.out d4 (mid + 1) b' li true true (by omega) (by omega) R5.out
                        have HBn := Lib.hid (R7.out _ pL sL).1
                        have HDn := Lib.hid ((Q11.out h4).symm.trans HD.out)
                        clear pL sL
                        go_wp2_with (go_at_call 45; refine hih.out.mono ?_; rintro e w8 ⟨rfl, hs8⟩; have HS8 := Lib.hid hs8; clear hs8)
                        go_roundg (mid - a')
                        case measure => omega
                        case rel =>
                          refine ⟨a', mid, li, decide (b' - mid ≥ (b' - a') / 8), ap, _, rfl, rfl, rfl, ?_, rfl, by omega, by omega, Nat.le_refl _, by omega, by omega, HBn, HS8, HDn⟩
                          exact congrArg Value.bool (eighth_s (by omega) (by omega))
                    · have h87' := h87
                      simp only [Bool.and_eq_true, decide_eq_true_eq, Bool.not_eq_true'] at h87'
                      obtain ⟨mid, d4, hx⟩ : ∃ mid d4, Sort.partitionEqual lt d3 a' b' pv = (mid, d4) := ⟨(Sort.partitionEqual lt d3 a' b' pv).1, (Sort.partitionEqual lt d3 a' b' pv).2, rfl⟩
                      obtain ⟨r1, r2, r3, r4, _⟩ := Sort.round_eq HW.out (Sort.partitionEqual_holds lt) h87'.1 hpv.1 hpv.2 (show b' ≤ d3.size by omega) HB3.out h87'.2 hx
                      have C7 := partitionEqual_s HH.out a' b' pv d3 wc HS6.out (by omega) hb' (by omega)
                      rw [hx] at C7 q9
                      simp only at C7 q9
                      replace C7 := Lib.hid C7
                      have HDn := Lib.hid ((q9 h87 ⟨r1, r2⟩).symm.trans HD.out)
                      have R4 := Lib.hid r4
                      clear hx q9 q10 q11 r4 h87 h87'
                      go_wp2_with (go_at_call 76; refine C7.out.mono ?_; rintro e w7 ⟨rfl, hs7⟩; have HS7 := Lib.hid hs7; clear hs7)
                      go_roundg (b' - mid)
                      case measure => omega
                      case rel =>
                        exact ⟨mid, b', li, wb, wp, d4, rfl, rfl, rfl, rfl, rfl, by omega, hb', Nat.le_refl _, by omega, by omega, R4, HS7, HDn⟩
end Go.Proofs.YtffgoekdjcempaaGreat
