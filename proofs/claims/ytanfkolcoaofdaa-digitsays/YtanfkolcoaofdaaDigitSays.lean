/-
  'Rows.DigitSaysSaid' is proved: Check, Rank and Order of permutations answer what the document says, for all arguments. No condition.
-/
import Derived.Test.YtanfkolcoaofdaaRows
import Derived.Test.YtanfkolcoaofdaaShapes
import Derived.Test.YtanfkolcoaofdaaDigitOrder
import Derived.Test.YtanfkolcoaofdaaRefDigit
import Derived.Test.YtanfkolcoaofdaaEqualInts
import Derived.Test.YtanfkolcoaofdaaLit
import Derived.Deep.DeepCutAuto
import Derived.WalkKit
import Derived.ProofKit
import Derived.OpenShut
import Derived.ShutString
import Derived.ChangeOld
import Derived.Below
namespace Go.Proofs.Ytanfkolcoaofdaa.digitSays
open Go.ChangeShapes Go.WideShapes Go.ChangeAt Go.RowKit
open Go.ChangeMaps (open_string shut_string)
set_option linter.unusedVariables false

theorem own : ownKnob Try.prog.godebug = none := by kernel_rfl
theorem laidOut : laidOutB Try.prog = true := by kernel_rfl

open Digit
theorem lit_check : checkD [1] = 1 := by decide +kernel
theorem rank_any (a : Option Addr) (len cap : Nat) (l : List Int) (w : World) (h : Tab w a len cap 1 (l.map iC)) : ∃ (r c : Int), (checkD l = 0 → l.length ≤ 12 ∧ Ok l ∧ r = (rankOf l : Nat)) ∧ (checkD l ≠ 0 → r = 0) ∧ c = checkD l ∧
    Calls Try.prog 15 #[.slice a len cap] w fun e w' => e = .returned (.tuple #[.int .i64 r, .int .i64 c]) ∧ w = w' := by
  by_cases hc : checkD l = 0
  · obtain ⟨h1, h2⟩ := checkD_zero hc
    exact ⟨_, 0, fun _ => ⟨h1, h2, rfl⟩, fun h => absurd hc h, hc.symm, digitRank_ok a len cap l w h h1 h2⟩
  · exact ⟨0, _, fun h => absurd h hc, fun _ => rfl, rfl, digitRank_bad a len cap l w h hc⟩

set_option maxRecDepth 100000 in
set_option maxHeartbeats 2000000 in
theorem walk (x0 : Sl Int) (x1 : Int) (x2 : Int) (w : World) (t0 : Tab w x0.a x0.len x0.cap 1 (x0.l.map iC)) (b0 : x0.len * 8 ≤ 140737488351232) (o0 : ∀ z ∈ x0.l, wfI z) (w1 : (Lit.int .i64 x1).wf = true) (w2 : (Lit.int .i64 x2).wf = true) :
    Calls Try.prog 3 #[.slice x0.a x0.len x0.cap, .int .i64 x1, .int .i64 x2] w fun e w' => e = .returned (.bool true) ∧ Below w.heap.size w w' := by
  obtain ⟨a, len, cap, L⟩ := x0
  have HT := Lib.hid t0
  have hmx := t0.hmax
  have hle := t0.hle
  unfold maxLen at hmx
  clear t0 o0 b0 w1 w2
  obtain ⟨r2, c2, K2, K2', K2'', C2x⟩ := rank_any a len cap L w HT.out
  have C2 := Lib.hid C2x
  have HK2 := Lib.hid (And.intro K2 (And.intro K2' K2''))
  clear C2x K2 K2' K2''
  have C3 := Lib.hid (order_any x1 x2 w)
  go_enter Try.func3, Try.ntmps3
  go_wp2_with fail
  refine C2.out.mono ?_
  rintro e v1 ⟨rfl, rfl⟩
  go_wp2_with fail
  refine C3.out.mono ?_
  rintro e v1 ⟨s1, rfl, hO1, hb1⟩
  obtain ⟨a1, cap1, rfl, hT1⟩ := hO1.tab
  have HS : Hid (Tab v1 a1 (orderP x1 x2).1.length cap1 1 ((orderP x1 x2).1.map iC)) := by rw [List.length_map] at hT1; exact Lib.hid hT1
  rw [List.length_map]
  have HT1 := Lib.hid (HT.out.below hb1)
  have C4 := Lib.hid (refOrder_any a len cap L v1 HT1.out)
  have C5 := Lib.hid (digitCheck_any a len cap L v1 HT1.out)
  have C6x := digitCheck_any (some ⟨v1.heap.size, 0, none⟩) 1 1 [1] (v1.alloc (.cells #[.int .i64 1] 3)) (tab_lit _ _ 1 1 ([(1 : Int)].map iC) #[.int .i64 1] rfl rfl (rows_of iC_len _) (by decide) _ rfl)
  rw [lit_check] at C6x
  have C6 := Lib.hid C6x
  have HBL := Lib.hid (below_on hb1 ((Below.refl v1.heap.size v1).alloc (Nat.le_refl _) (.cells #[.int .i64 1] 3)))
  have HSL := Lib.hid (HS.out.below ((Below.refl v1.heap.size v1).alloc (Nat.le_refl _) (.cells #[.int .i64 1] 3)))
  have HTL := Lib.hid (HT.out.below HBL.out)
  clear C2 C3 C6x hO1 hT1 hb1 HS HT1
  obtain ⟨cc, hcc⟩ : ∃ cc, checkD L = cc := ⟨_, rfl⟩
  rw [hcc] at C4 C5 HK2
  have HCC := Lib.hid hcc
  clear hcc
  have t1 : ((cc : Int) != cc) = false := by simp
  go_wp2_with fail
  refine C4.out.mono ?_
  rintro e v2 ⟨rfl, rfl⟩
  go_wp2_with fail
  refine C5.out.mono ?_
  rintro e v2 ⟨rfl, rfl⟩
  go_wp2_with fail
  refine C6.out.mono ?_
  rintro e v2 ⟨rfl, rfl⟩
  clear C4 C5 C6
  generalize (v1.alloc (.cells #[.int .i64 1] 3)) = v2 at *
  go_upto_if 35 with fail
  go_cut [] (fun wx => Below v2.heap.size v2 wx)
  case first =>
    by_cases hc : cc = 0
    · subst hc
      obtain ⟨hm1, hm2, rfl⟩ := HK2.out.1 rfl
      obtain rfl := HK2.out.2.2
      have D := Lib.hid (refRank_any a len cap L v2 HTL.out hm1 hm2)
      clear HK2 hm1 hm2
      generalize rankOf L = R at *
      have t2 : ((R : Int) != R) = false := by simp
      go_wp2_with fail
      refine D.out.mono ?_
      rintro e v3 ⟨rfl, rfl⟩
      go_wp2_with fail
      go_meet
      case rel => exact Below.refl _ _
    · obtain rfl := HK2.out.2.1 hc
      obtain rfl := HK2.out.2.2
      have t2 : ((c2 : Int) != 0) = true := by rw [bne_iff_ne]; exact hc
      clear HK2 hc
      go_wp2_with fail
      go_meet
      case rel => exact Below.refl _ _
  case rest =>
  have HB9 := Lib.hid (below_on HBL.out hcut)
  have HS9 := Lib.hid (HSL.out.below hcut)
  clear hcut HBL HSL HTL HK2 HCC t1
  by_cases hA : x1 < 0 ∨ 12 < x1
  · have hP : orderP x1 x2 = ([], 1) := by unfold orderP; rw [if_pos hA]
    rw [hP] at HS9 ⊢
    clear hP
    by_cases hA1 : x1 < 0
    · clear hA
      go_wp2
      go_ret
      exact ⟨rfl, HB9.out⟩
    · have hA2 : 12 < x1 := by omega
      clear hA
      go_wp2
      go_ret
      exact ⟨rfl, HB9.out⟩
  · obtain ⟨k, rfl⟩ := Int.eq_ofNat_of_zero_le (show 0 ≤ x1 by omega)
    have hk : k ≤ 12 := by omega
    have D := Lib.hid (refFact_any k hk)
    have hmxB := fact_max hk
    by_cases hB : x2 < 0 ∨ (fact k : Int) ≤ x2
    · have hP : orderP k x2 = ([], 4) := by unfold orderP; rw [if_neg hA, Int.toNat_natCast, if_pos hB]
      rw [hP] at HS9 ⊢
      clear hP hA
      generalize fact k = B at *
      by_cases hB1 : x2 < 0
      · clear hB
        go_wp2
        go_ret
        exact ⟨rfl, HB9.out⟩
      · have hB2 : (B : Int) ≤ x2 := by omega
        clear hB
        go_wp2_with fail
        refine (D.out _).mono ?_
        rintro e v3 ⟨rfl, rfl⟩
        go_wp2
        go_ret
        exact ⟨rfl, HB9.out⟩
    · obtain ⟨r, rfl⟩ := Int.eq_ofNat_of_zero_le (show 0 ≤ x2 by omega)
      have hr : r < fact k := by omega
      rw [orderP_ok hk hr] at HS9 ⊢
      have hls : (orderOf k r).length = k := (orderOf_ok hr).1
      rw [show (orderOf k r, (0 : Int)).1 = orderOf k r from rfl, hls] at HS9 ⊢
      rw [show (orderOf k r, (0 : Int)).2 = 0 from rfl]
      have I := Lib.hid (fun W => refNth_any k r W hk hr)
      have HLs := Lib.hid hls
      clear hA hB hls
      generalize orderOf k r = X at *
      generalize fact k = B at *
      go_wp2_with fail
      refine (D.out _).mono ?_
      rintro e v3 ⟨rfl, rfl⟩
      go_wp2_with fail
      refine (I.out _).mono ?_
      rintro e v4 ⟨s4, rfl, hO4, hb4⟩
      obtain ⟨a4, cap4, rfl, hT4⟩ := hO4.tab
      rw [List.length_map, HLs.out] at hT4 ⊢
      have E := Lib.hid (equal_ints a1 a4 k cap1 k cap4 X X v4 (HS9.out.below hb4) hT4 true (by simp))
      clear hO4 hT4 I D
      go_wp2_with fail
      refine E.out.mono ?_
      rintro e v5 ⟨rfl, hb5⟩
      go_wp2
      go_ret
      exact ⟨rfl, below_on (below_on HB9.out hb4) hb5⟩

set_option maxRecDepth 100000 in
theorem lifted (os : Os) (started : os.Started) (H : Type) (enc : TypeId × Value → H) :
    ReturnsInHanded {} Try.checked os 3 .any (Rows.digitSaysSpec.pre6 enc Try.prog Try.f3 Rows.digitSaysRow.domain false) (Rows.digitSaysSpec.post enc Try.prog Try.f3 false true false false) := by
  refine returnsInHanded_of_change_sized (C := Try.checked) own started (by kernel_rfl) Try.func3
    (ChangeSpec.witness6 (enc := enc) (C := Try.checked) false ⟨#[], #[.slice none 0 0, .int .i64 0, .int .i64 0], []⟩ 8 (by kernel_rfl) (by kernel_rfl) (by kernel_rfl) (by kernel_rfl)) ?_
  intro W base args ds gs before hval0 hW hcnd hsz0 _
  have hval : ∀ (j : Nat) t v, Try.f3.params[j]? = some t → args[j]? = some v → Value.okWide Try.prog W .any base t v := hval0
  have hW' := hW
  obtain ⟨p, q, hA0, hV, rfl, hfz, hnd⟩ := hW
  have hA : DataW.TrodAll enc Try.prog W 0 (fun _ => true) true Try.f3.params.toList args.toList ds p := hA0
  have hsz : (DataW.weightsEach Try.prog (Try.f3.params.toList ++ Rows.digitSaysSpec.plain.varTypes Try.prog) (ds ++ gs)).all (· ≤ reachBytes) = true := hsz0
  rw [Try.params3] at hA hval hsz
  obtain ⟨v0, vs0, d0, ds0, p0, q0, hargs, rfl, rfl, h0, r0⟩ := trodAll_cons hA
  obtain ⟨v1, vs1, d1, ds1, p1, q1, rfl, rfl, rfl, h1, r1⟩ := trodAll_cons r0
  obtain ⟨v2, vs2, d2, ds2, p2, q2, rfl, rfl, rfl, h2, r2⟩ := trodAll_cons r1
  obtain ⟨rfl, rfl, rfl⟩ := trodAll_nil r2
  obtain rfl : args = #[v0, v1, v2] := by cases args; simp_all
  obtain ⟨rfl, rfl⟩ := trodVars_none hV
  have k0 := h0
  have L0 := light_of hsz (j := 0) (t := 22) (d := d0) rfl rfl
  have lt0 : ∀ x ∈ p0, x.block < W.heap.size := by obtain ⟨m, hm⟩ := k0; exact DataW.trod_lt m _ _ _ hm
  obtain ⟨a0, len0, cap0, rfl⟩ := okWide_slice Try.underlying22 (hval 0 22 v0 rfl rfl)
  obtain ⟨n0, f0⟩ := trod_slice_of Try.underlying22 h0
  have F0 := And.intro f0 L0
  obtain ⟨x0, e0, t0, b0, o0⟩ := el_slice (w := W) (k := 1) iC wfI (by decide) Try.underlying22 (by kernel_rfl) (el_int Try.underlying3) (B := 8) (by kernel_rfl) _ _ _ F0.1 F0.2
  simp only [slC, List.cons.injEq, Value.slice.injEq, and_true] at e0
  obtain ⟨rfl, rfl, rfl⟩ := e0
  have k1 := h1
  have L1 := light_of hsz (j := 1) (t := 3) (d := d1) rfl rfl
  have lt1 : ∀ x ∈ p1, x.block < W.heap.size := by obtain ⟨m, hm⟩ := k1; exact DataW.trod_lt m _ _ _ hm
  obtain ⟨x1, rfl, rfl, rfl, w1⟩ := open_int Try.underlying3 (hval 1 3 v1 rfl rfl) h1
  have k2 := h2
  have L2 := light_of hsz (j := 2) (t := 3) (d := d2) rfl rfl
  have lt2 : ∀ x ∈ p2, x.block < W.heap.size := by obtain ⟨m, hm⟩ := k2; exact DataW.trod_lt m _ _ _ hm
  obtain ⟨x2, rfl, rfl, rfl, w2⟩ := open_int Try.underlying3 (hval 2 3 v2 rfl rfl) h2
  clear hA0 hval0
  refine (walk x0 x1 x2 W t0 b0 o0 w1 w2).mono fun e W' ⟨he, hg⟩ => ?_
  subst he
  exact ⟨_, rfl, _, _, _, [], _, [], hW', trodAll_mk1 (shut_bool Try.underlying4 _), (trodAll_cons_mk (Below.trod laidOut (by kernel_rfl) (of_decide_eq_true (by kernel_rfl)) k0 hg lt0) (trodAll_cons_mk (Below.trod laidOut (by kernel_rfl) (of_decide_eq_true (by kernel_rfl)) k1 hg lt1) (trodAll_cons_mk (Below.trod laidOut (by kernel_rfl) (of_decide_eq_true (by kernel_rfl)) k2 hg lt2) trodAll_mk0))), rfl, hg.frame _, fun h => by cases h⟩

theorem over : Rows.digitSaysRow.holds Try.pinned (OpenSpec.ofChange Rows.digitSaysSpec) :=
  OpenClaim.holds_of_wide 3 Try.f3 rfl rfl rfl rfl rfl rfl rfl ⟨rfl, rfl, rfl, rfl, rfl⟩ rfl rfl rfl rfl rfl (by kernel_rfl) Try.func3 (by kernel_rfl)
    (of_decide_eq_true (by kernel_rfl)) (by unfold Func.isWrapper; first | (rw [if_pos (by decide +kernel)]; kernel_rfl) | (rw [if_neg (by decide +kernel)]; exact ⟨rfl, rfl⟩))
    (fun os started H enc _ => lifted os started H enc)

/-- ████ THE STATEMENT ████ -/
theorem proved : Rows.DigitSaysSaid :=
  over
#print axioms proved
end Go.Proofs.Ytanfkolcoaofdaa.digitSays
