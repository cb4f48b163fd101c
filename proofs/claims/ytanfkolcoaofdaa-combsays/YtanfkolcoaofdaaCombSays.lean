/-
  'Rows.CombSaysSaid' is proved: Ways, Check, Rank and Some of combinations answer what the document says, for all arguments. No condition.
-/
import Derived.Test.YtanfkolcoaofdaaRows
import Derived.Test.YtanfkolcoaofdaaShapes
import Derived.Test.YtanfkolcoaofdaaCombSome
import Derived.Test.YtanfkolcoaofdaaCombRank
import Derived.Test.YtanfkolcoaofdaaRefComb
import Derived.Test.YtanfkolcoaofdaaEqualInts
import Derived.Test.YtanfkolcoaofdaaLit
import Derived.Deep.DeepCutAuto
import Derived.WalkKit
import Derived.ProofKit
import Derived.OpenShut
import Derived.ShutString
import Derived.ChangeOld
import Derived.Below
namespace Go.Proofs.Ytanfkolcoaofdaa.combSays
open Go.ChangeShapes Go.WideShapes Go.ChangeAt Go.RowKit
open Go.ChangeMaps (open_string shut_string)
set_option linter.unusedVariables false

theorem own : ownKnob Try.prog.godebug = none := by kernel_rfl
theorem laidOut : laidOutB Try.prog = true := by kernel_rfl

open Binom
theorem lit_check : checkC [-1] = 1 := by decide +kernel
theorem ways_any (n k : Int) : ∃ (r c : Int), (0 ≤ n → n ≤ 30 → 0 ≤ k → k ≤ n → r = (binom n.toNat k.toNat : Nat) ∧ c = 0 ∧ r ≤ 1073741824) ∧ ((n < 0 ∨ 30 < n) ∨ (k < 0 ∨ n < k) → r = 0 ∧ c = 1) ∧
    ∀ w, Calls Try.prog 26 #[.int .i64 n, .int .i64 k] w fun e w' => e = .returned (.tuple #[.int .i64 r, .int .i64 c]) ∧ w = w' := by
  by_cases h : (n < 0 ∨ 30 < n) ∨ (k < 0 ∨ n < k)
  · exact ⟨0, 1, fun _ _ _ _ => by omega, fun _ => ⟨rfl, rfl⟩, ways_bad n k h⟩
  · refine ⟨_, 0, fun _ _ _ _ => ⟨rfl, rfl, ?_⟩, fun h' => absurd h' h, fun w => ?_⟩
    · have := le_max k.toNat (show n.toNat ≤ 30 by omega); omega
    · have := ways_ok n.toNat k.toNat (by omega) (by omega) w
      rw [Int.toNat_of_nonneg (by omega : 0 ≤ n), Int.toNat_of_nonneg (by omega : 0 ≤ k)] at this
      exact this
theorem rank_any (a : Option Addr) (len cap : Nat) (l : List Int) (w : World) (h : Tab w a len cap 1 (l.map iC)) : ∃ (r c : Int), (checkC l = 0 → ∃ m, l = nn m ∧ m.length ≤ 30 ∧ rising 30 m ∧ r = (rankFrom 0 m : Nat)) ∧ (checkC l ≠ 0 → r = 0) ∧ c = checkC l ∧
    Calls Try.prog 27 #[.slice a len cap] w fun e w' => e = .returned (.tuple #[.int .i64 r, .int .i64 c]) ∧ w = w' := by
  by_cases hc : checkC l = 0
  · obtain ⟨m, rfl, h1, h2⟩ := checkC_zero hc
    exact ⟨_, 0, fun _ => ⟨m, rfl, h1, h2, rfl⟩, fun h => absurd hc h, hc.symm, combRank_ok a len cap m w h h1 h2⟩
  · exact ⟨0, _, fun h => absurd h hc, fun _ => rfl, rfl, combRank_bad a len cap l w h hc⟩

set_option maxRecDepth 100000 in
set_option maxHeartbeats 2000000 in
theorem walk (x0 : Int) (x1 : Int) (x2 : Sl Int) (x3 : Int) (w : World) (w0 : (Lit.int .i64 x0).wf = true) (w1 : (Lit.int .i64 x1).wf = true) (t2 : Tab w x2.a x2.len x2.cap 1 (x2.l.map iC)) (b2 : x2.len * 8 ≤ 140737488351232) (o2 : ∀ z ∈ x2.l, wfI z) (w3 : (Lit.int .i64 x3).wf = true) :
    Calls Try.prog 5 #[.int .i64 x0, .int .i64 x1, .slice x2.a x2.len x2.cap, .int .i64 x3] w fun e w' => e = .returned (.bool true) ∧ Below w.heap.size w w' := by
  obtain ⟨a, len, cap, L⟩ := x2
  have HT := Lib.hid t2
  have hmx := t2.hmax
  have hle := t2.hle
  unfold maxLen at hmx
  have HW := Lib.hid (And.intro w0 (And.intro w1 w3))
  clear t2 o2 b2 w0 w1 w3
  obtain ⟨r1, c1, K1, K1', C1x⟩ := ways_any x0 x1
  obtain ⟨r2, c2, K2, K2', K2'', C2x⟩ := rank_any a len cap L w HT.out
  have C1 := Lib.hid C1x
  have C2 := Lib.hid C2x
  have HK1 := Lib.hid (And.intro K1 K1')
  have HK2 := Lib.hid (And.intro K2 (And.intro K2' K2''))
  clear C1x C2x K1 K1' K2 K2' K2''
  have C3 := Lib.hid (some_any x1 x3 w)
  go_enter Try.func5, Try.ntmps5
  go_wp2_with fail
  refine (C1.out _).mono ?_
  rintro e v1 ⟨rfl, rfl⟩
  go_wp2_with fail
  refine C2.out.mono ?_
  rintro e v1 ⟨rfl, rfl⟩
  go_wp2_with fail
  refine C3.out.mono ?_
  rintro e v1 ⟨s1, rfl, hO1, hb1⟩
  obtain ⟨a1, cap1, rfl, hT1⟩ := hO1.tab
  have HS : Hid (Tab v1 a1 (someP x1 x3).1.length cap1 1 ((someP x1 x3).1.map iC)) := by rw [List.length_map] at hT1; exact Lib.hid hT1
  rw [List.length_map]
  have HB1 := Lib.hid hb1
  have HT1 := Lib.hid (HT.out.below hb1)
  have C4 := Lib.hid (refComb_any a len cap L v1 HT1.out)
  have C5 := Lib.hid (combCheck_any a len cap L v1 HT1.out)
  have C6x := combCheck_any (some ⟨v1.heap.size, 0, none⟩) 1 1 [-1] (v1.alloc (.cells #[.int .i64 (-1)] 3)) (tab_lit _ _ 1 1 ([(-1 : Int)].map iC) #[.int .i64 (-1)] rfl rfl (rows_of iC_len _) (by decide) _ rfl)
  rw [lit_check] at C6x
  have C6 := Lib.hid C6x
  have HBL := Lib.hid (below_on hb1 ((Below.refl v1.heap.size v1).alloc (Nat.le_refl _) (.cells #[.int .i64 (-1)] 3)))
  have HSL := Lib.hid (HS.out.below ((Below.refl v1.heap.size v1).alloc (Nat.le_refl _) (.cells #[.int .i64 (-1)] 3)))
  have HTL := Lib.hid (HT.out.below HBL.out)
  clear C1 C2 C3 C6x hO1 hT1 hb1 HS HT1
  obtain ⟨cc, hcc⟩ : ∃ cc, checkC L = cc := ⟨_, rfl⟩
  rw [hcc] at C4 C5 HK2
  have HCC := Lib.hid hcc
  clear hcc
  have t1 : ((cc : Int) != cc) = false := by simp
  go_wp2_with fail
  refine C4.out.mono ?_
  rintro e v2 ⟨rfl, rfl⟩
  go_wp2_with fail
  refine C5.out.mono ?_
  rintro e v2 ⟨rfl, rfl⟩
  go_wp2_with fail
  refine C6.out.mono ?_
  rintro e v2 ⟨rfl, rfl⟩
  clear C4 C5 C6
  generalize (v1.alloc (.cells #[.int .i64 (-1)] 3)) = v2 at *
  obtain ⟨b7, HB7⟩ : ∃ b : Bool, Hid (b = (((decide (x0 < 0) || decide (30 < x0)) || decide (x1 < 0)) || decide (x0 < x1))) := ⟨_, Lib.hid rfl⟩
  go_upto_region 7 with fail
  go_cut [58] (fun s wx => s = .bool b7 ∧ wx = v2)
  case first =>
    go_wp2_with fail
    all_goals go_meet
    all_goals rw [HB7.out]
    all_goals refine ⟨congrArg Value.bool ?_, rfl⟩
    all_goals first | rfl | (simp; omega)
  case rest =>
  obtain ⟨rfl, rfl⟩ := hcut
  go_upto_if 58 with fail
  go_cut [] (fun wx => Below wc.heap.size wc wx)
  case first =>
    by_cases hn : (x0 < 0 ∨ 30 < x0) ∨ (x1 < 0 ∨ x0 < x1)
    · obtain ⟨rfl, rfl⟩ := HK1.out.2 hn
      obtain rfl : b7 = true := by rw [HB7.out]; simp; omega
      clear HB7 HK1 HK2 hn
      go_wp2_with fail
      go_meet
      case rel => exact Below.refl _ _
    · obtain ⟨h1, rfl, h3⟩ := HK1.out.1 (by omega) (by omega) (by omega) (by omega)
      obtain rfl : b7 = false := by rw [HB7.out]; simp; omega
      have D := refWays_any x0.toNat x1.toNat (by omega) wc
      rw [← h1, Int.toNat_of_nonneg (by omega : 0 ≤ x0), Int.toNat_of_nonneg (by omega : 0 ≤ x1)] at D
      have D := Lib.hid D
      have t2 : ((r1 : Int) != r1) = false := by simp
      clear HB7 HK1 HK2 hn h1
      go_wp2_with fail
      refine D.out.mono ?_
      rintro e v3 ⟨rfl, hb3⟩
      go_wp2_with fail
      go_meet
      case rel => exact hb3
  case rest =>
  have HB8 := Lib.hid (below_on HBL.out hcut)
  have HS8 := Lib.hid (HSL.out.below hcut)
  have HT8 := Lib.hid (HTL.out.below hcut)
  clear hcut HBL HSL HTL HB7 HK1
  obtain ⟨W0, hW0⟩ : ∃ W0, W0 = wc := ⟨_, rfl⟩
  subst hW0
  go_upto_if 75 with fail
  go_cut [] (fun wx => Below W0.heap.size W0 wx)
  case first =>
    by_cases hc : cc = 0
    · subst hc
      obtain ⟨m, hm1, hm2, hm3, rfl⟩ := HK2.out.1 rfl
      obtain rfl := HK2.out.2.2
      have hml : m.length = len := by
        have := HT8.out.hlen
        rwa [hm1, List.length_map, nn_len] at this
      have D := refCombRank_any len a cap m W0 (by omega) (by have := HT8.out; rwa [hm1] at this) hm3
      have D := Lib.hid D
      clear HK2 hm1 hm2 hm3 hml
      generalize rankFrom 0 m = R at *
      have t2 : ((R : Int) != R) = false := by simp
      go_wp2_with fail
      refine D.out.mono ?_
      rintro e v3 ⟨rfl, hb3⟩
      go_wp2_with fail
      go_meet
      case rel => exact hb3
    · obtain rfl := HK2.out.2.1 hc
      obtain rfl := HK2.out.2.2
      have t2 : ((c2 : Int) != 0) = true := by rw [bne_iff_ne]; exact hc
      clear HK2 hc
      go_wp2_with fail
      go_meet
      case rel => exact Below.refl _ _
  case rest =>
  have HB9 := Lib.hid (below_on HB8.out hcut)
  have HS9 := Lib.hid (HS8.out.below hcut)
  clear hcut HB8 HS8 HT8 HK2 HCC t1
  by_cases hA : x1 < 0 ∨ 30 < x1
  · have hP : someP x1 x3 = ([], 1) := by unfold someP; rw [if_pos hA]
    rw [hP] at HS9 ⊢
    clear hP HW
    by_cases hA1 : x1 < 0
    · clear hA
      go_wp2
      go_ret
      exact ⟨rfl, HB9.out⟩
    · have hA2 : 30 < x1 := by omega
      clear hA
      go_wp2
      go_ret
      exact ⟨rfl, HB9.out⟩
  · obtain ⟨k, rfl⟩ := Int.eq_ofNat_of_zero_le (show 0 ≤ x1 by omega)
    have hk : k ≤ 30 := by omega
    have D := Lib.hid (refWays_any 30 k (by omega))
    have hmxB := le_max k (Nat.le_refl 30)
    by_cases hB : x3 < 0 ∨ (binom 30 k : Int) ≤ x3
    · have hP : someP k x3 = ([], 4) := by unfold someP; rw [if_neg hA, Int.toNat_natCast, if_pos hB]
      rw [hP] at HS9 ⊢
      clear hP hA HW
      generalize binom 30 k = B at *
      by_cases hB1 : x3 < 0
      · clear hB
        go_wp2
        go_ret
        exact ⟨rfl, HB9.out⟩
      · have hB2 : (B : Int) ≤ x3 := by omega
        clear hB
        go_wp2_with fail
        refine (D.out _).mono ?_
        rintro e v3 ⟨rfl, hb3⟩
        go_wp2
        go_ret
        exact ⟨rfl, below_on HB9.out hb3⟩
    · obtain ⟨r, rfl⟩ := Int.eq_ofNat_of_zero_le (show 0 ≤ x3 by omega)
      have hr : r < binom 30 k := by omega
      rw [someP_ok hk hr] at HS9 ⊢
      have hls : (nn (someOf k 30 r)).length = k := by rw [nn_len, someOf_len]
      rw [show (nn (someOf k 30 r), (0 : Int)).1 = nn (someOf k 30 r) from rfl, hls] at HS9 ⊢
      rw [show (nn (someOf k 30 r), (0 : Int)).2 = 0 from rfl]
      have I := Lib.hid (fun W => refSome_any k r W hk hr)
      have HLs := Lib.hid hls
      clear hA hB hls HW
      generalize nn (someOf k 30 r) = X at *
      generalize binom 30 k = B at *
      go_wp2_with fail
      refine (D.out _).mono ?_
      rintro e v3 ⟨rfl, hb3⟩
      go_wp2_with fail
      refine (I.out _).mono ?_
      rintro e v4 ⟨s4, rfl, hO4, hb4⟩
      obtain ⟨a4, cap4, rfl, hT4⟩ := hO4.tab
      rw [List.length_map, HLs.out] at hT4 ⊢
      have E := Lib.hid (equal_ints a1 a4 k cap1 k cap4 X X v4 (HS9.out.below (below_on hb3 hb4)) hT4 true (by simp))
      clear hO4 hT4 I D
      go_wp2_with fail
      refine E.out.mono ?_
      rintro e v5 ⟨rfl, hb5⟩
      go_wp2
      go_ret
      exact ⟨rfl, below_on (below_on (below_on HB9.out hb3) hb4) hb5⟩

set_option maxRecDepth 100000 in
theorem lifted (os : Os) (started : os.Started) (H : Type) (enc : TypeId × Value → H) :
    ReturnsInHanded {} Try.checked os 5 .any (Rows.combSaysSpec.pre6 enc Try.prog Try.f5 Rows.combSaysRow.domain false) (Rows.combSaysSpec.post enc Try.prog Try.f5 false true false false) := by
  refine returnsInHanded_of_change_sized (C := Try.checked) own started (by kernel_rfl) Try.func5
    (ChangeSpec.witness6 (enc := enc) (C := Try.checked) false ⟨#[], #[.int .i64 0, .int .i64 0, .slice none 0 0, .int .i64 0], []⟩ 8 (by kernel_rfl) (by kernel_rfl) (by kernel_rfl) (by kernel_rfl)) ?_
  intro W base args ds gs before hval0 hW hcnd hsz0 _
  have hval : ∀ (j : Nat) t v, Try.f5.params[j]? = some t → args[j]? = some v → Value.okWide Try.prog W .any base t v := hval0
  have hW' := hW
  obtain ⟨p, q, hA0, hV, rfl, hfz, hnd⟩ := hW
  have hA : DataW.TrodAll enc Try.prog W 0 (fun _ => true) true Try.f5.params.toList args.toList ds p := hA0
  have hsz : (DataW.weightsEach Try.prog (Try.f5.params.toList ++ Rows.combSaysSpec.plain.varTypes Try.prog) (ds ++ gs)).all (· ≤ reachBytes) = true := hsz0
  rw [Try.params5] at hA hval hsz
  obtain ⟨v0, vs0, d0, ds0, p0, q0, hargs, rfl, rfl, h0, r0⟩ := trodAll_cons hA
  obtain ⟨v1, vs1, d1, ds1, p1, q1, rfl, rfl, rfl, h1, r1⟩ := trodAll_cons r0
  obtain ⟨v2, vs2, d2, ds2, p2, q2, rfl, rfl, rfl, h2, r2⟩ := trodAll_cons r1
  obtain ⟨v3, vs3, d3, ds3, p3, q3, rfl, rfl, rfl, h3, r3⟩ := trodAll_cons r2
  obtain ⟨rfl, rfl, rfl⟩ := trodAll_nil r3
  obtain rfl : args = #[v0, v1, v2, v3] := by cases args; simp_all
  obtain ⟨rfl, rfl⟩ := trodVars_none hV
  have k0 := h0
  have L0 := light_of hsz (j := 0) (t := 3) (d := d0) rfl rfl
  have lt0 : ∀ x ∈ p0, x.block < W.heap.size := by obtain ⟨m, hm⟩ := k0; exact DataW.trod_lt m _ _ _ hm
  obtain ⟨x0, rfl, rfl, rfl, w0⟩ := open_int Try.underlying3 (hval 0 3 v0 rfl rfl) h0
  have k1 := h1
  have L1 := light_of hsz (j := 1) (t := 3) (d := d1) rfl rfl
  have lt1 : ∀ x ∈ p1, x.block < W.heap.size := by obtain ⟨m, hm⟩ := k1; exact DataW.trod_lt m _ _ _ hm
  obtain ⟨x1, rfl, rfl, rfl, w1⟩ := open_int Try.underlying3 (hval 1 3 v1 rfl rfl) h1
  have k2 := h2
  have L2 := light_of hsz (j := 2) (t := 22) (d := d2) rfl rfl
  have lt2 : ∀ x ∈ p2, x.block < W.heap.size := by obtain ⟨m, hm⟩ := k2; exact DataW.trod_lt m _ _ _ hm
  obtain ⟨a2, len2, cap2, rfl⟩ := okWide_slice Try.underlying22 (hval 2 22 v2 rfl rfl)
  obtain ⟨n2, f2⟩ := trod_slice_of Try.underlying22 h2
  have F2 := And.intro f2 L2
  obtain ⟨x2, e2, t2, b2, o2⟩ := el_slice (w := W) (k := 1) iC wfI (by decide) Try.underlying22 (by kernel_rfl) (el_int Try.underlying3) (B := 8) (by kernel_rfl) _ _ _ F2.1 F2.2
  simp only [slC, List.cons.injEq, Value.slice.injEq, and_true] at e2
  obtain ⟨rfl, rfl, rfl⟩ := e2
  have k3 := h3
  have L3 := light_of hsz (j := 3) (t := 3) (d := d3) rfl rfl
  have lt3 : ∀ x ∈ p3, x.block < W.heap.size := by obtain ⟨m, hm⟩ := k3; exact DataW.trod_lt m _ _ _ hm
  obtain ⟨x3, rfl, rfl, rfl, w3⟩ := open_int Try.underlying3 (hval 3 3 v3 rfl rfl) h3
  clear hA0 hval0
  refine (walk x0 x1 x2 x3 W w0 w1 t2 b2 o2 w3).mono fun e W' ⟨he, hg⟩ => ?_
  subst he
  exact ⟨_, rfl, _, _, _, [], _, [], hW', trodAll_mk1 (shut_bool Try.underlying4 _), (trodAll_cons_mk (Below.trod laidOut (by kernel_rfl) (of_decide_eq_true (by kernel_rfl)) k0 hg lt0) (trodAll_cons_mk (Below.trod laidOut (by kernel_rfl) (of_decide_eq_true (by kernel_rfl)) k1 hg lt1) (trodAll_cons_mk (Below.trod laidOut (by kernel_rfl) (of_decide_eq_true (by kernel_rfl)) k2 hg lt2) (trodAll_cons_mk (Below.trod laidOut (by kernel_rfl) (of_decide_eq_true (by kernel_rfl)) k3 hg lt3) trodAll_mk0)))), rfl, hg.frame _, fun h => by cases h⟩

theorem over : Rows.combSaysRow.holds Try.pinned (OpenSpec.ofChange Rows.combSaysSpec) :=
  OpenClaim.holds_of_wide 5 Try.f5 rfl rfl rfl rfl rfl rfl rfl ⟨rfl, rfl, rfl, rfl, rfl⟩ rfl rfl rfl rfl rfl (by kernel_rfl) Try.func5 (by kernel_rfl)
    (of_decide_eq_true (by kernel_rfl)) (by unfold Func.isWrapper; first | (rw [if_pos (by decide +kernel)]; kernel_rfl) | (rw [if_neg (by decide +kernel)]; exact ⟨rfl, rfl⟩))
    (fun os started H enc _ => lifted os started H enc)

/-- ████ THE STATEMENT ████ -/
theorem proved : Rows.CombSaysSaid :=
  over
#print axioms proved
end Go.Proofs.Ytanfkolcoaofdaa.combSays
