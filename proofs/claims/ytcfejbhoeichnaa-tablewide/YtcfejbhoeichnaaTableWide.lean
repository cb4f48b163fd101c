/-
  'Rows.TableWideSaid' is proved: with a row more no count is higher. No condition.
-/
import Derived.Test.YtcfejbhoeichnaaRows
import Derived.Test.YtcfejbhoeichnaaShapes
import Derived.Test.YtcfejbhoeichnaaTabLow
import Derived.Test.YtcfejbhoeichnaaTabSame
import Derived.Test.YtcfejbhoeichnaaEqualQuiet
import Derived.Deep.DeepCutAuto
import Derived.Deep.QuietTactic
import Derived.BigQuiet
import Derived.WalkKit
import Derived.ProofKit
import Derived.OpenShut
import Derived.ShutString
import Derived.ChangeOld
import Derived.Below
namespace Go.Proofs.Ytcfejbhoeichnaa.tableWide
open Go.ChangeShapes Go.WideShapes Go.ChangeAt Go.RowKit
open Go.ChangeMaps (open_string shut_string)
set_option linter.unusedVariables false

theorem own : ownKnob Try.prog.godebug = none := by kernel_rfl
theorem laidOut : laidOutB Try.prog = true := by kernel_rfl

open Tbl Came
theorem tab_of_own {w : World} {base : Nat} {e : TypeId} {v : Value} {C : List (Int × Int)} (h : Own w base e 2 v (C.map iiC)) : ∃ a n c, v = .slice a n c ∧ Tab w a n c 2 (C.map iiC) := by
  obtain ⟨a, c, e1, h1⟩ := h.tab
  exact ⟨a, _, c, e1, h1⟩
theorem tt_lit2_below (w : World) (n m : Int) : Below w.heap.size w (((w.alloc (.cells #[.int .i64 n] 3)).alloc (.cells #[.int .i64 m] 3)).alloc (.cells #[.slice (some ⟨w.heap.size, 0, none⟩) 1 1, .slice (some ⟨w.heap.size + 1, 0, none⟩) 1 1] 34)) := (((Below.refl _ _).alloc (Nat.le_refl _) _).alloc (by simp) _).alloc (by simp; omega) _
/-- with more rows no count is higher -/
theorem ask_more {s m n : Nat} {C : List (Int × Int)} {k : Int} (h1 : 1 ≤ s) (hmn : m ≤ n) : askR s k (allR s C (zeroR s n)) ≤ askR s k (allR s C (zeroR s m)) := by
  rcases ask_is s k (allR s C (zeroR s m)) with h | ⟨i, r, hr, h⟩
  · rw [h]; exact ask_top _ _ _
  · have hi : i < m := by have := (List.getElem?_eq_some_iff.1 hr).1; rw [allR_len] at this; simpa [zeroR] using this
    obtain ⟨q, hq⟩ : ∃ q, (allR s C (zeroR s n))[i]? = some q := ⟨_, List.getElem?_eq_getElem (by rw [allR_len]; simp [zeroR]; omega)⟩
    have := ask_le (s := s) (x := k) hq
    rw [all_at h1 hq] at this
    rw [h, all_at h1 hr]
    exact this
theorem row_same {s m n i : Nat} {C : List (Int × Int)} {r q : List Int} (h : (allR s C (zeroR s m))[i]? = some r) (h2 : (allR s C (zeroR s n))[i]? = some q) : r = q := by rw [all_row h, all_row h2]
theorem row_there {s m i : Nat} {C : List (Int × Int)} (h : i < m) : ∃ r, (allR s C (zeroR s m))[i]? = some r := ⟨_, List.getElem?_eq_getElem (by rw [allR_len]; simp [zeroR]; omega)⟩

set_option maxRecDepth 100000 in
set_option maxHeartbeats 2000000 in
theorem walk (x0 : Int) (x1 : Sl (Sl Int)) (x2 : Int) (w : World) (w0 : (Lit.int .i64 x0).wf = true) (t1 : Tab w x1.a x1.len x1.cap 1 (x1.l.map slC)) (b1 : x1.len * 24 ≤ 140737488351232) (o1 : ∀ z ∈ x1.l, (fun y : Sl Int => Tab w y.a y.len y.cap 1 (y.l.map iC) ∧ y.len * 8 ≤ 140737488351232 ∧ ∀ z ∈ y.l, wfI z) z) (w2 : (Lit.int .i64 x2).wf = true) :
    Calls Try.prog 8 #[.int .i64 x0, .slice x1.a x1.len x1.cap, .int .i64 x2] w fun e w' => e = .returned (.bool true) ∧ Below w.heap.size w w' := by
  obtain ⟨a, len, cap, L⟩ := x1
  have bb0 := wf_i64 w0
  have hR1 := fun W => rows_any x0 0 W bb0 (by decide)
  have hR2 := fun W => rows_any x0 1 W bb0 (by decide)
  have hR3 := fun W => rows_any x0 3 W bb0 (by decide)
  rw [show rowB 0 = 1 from by decide] at hR1
  rw [show rowB 1 = 2 from by decide] at hR2
  rw [show rowB 3 = 4 from by decide] at hR3
  have s1 := (widB_bd x0).2.1
  have s2 := (widB_bd x0).2.2
  generalize widB x0 = s at *
  generalize x2 = key at *
  have hC1 := fun W (hb : Below w.heap.size w W) => came_any a len cap L 100 W (t1.below hb) (fun z hz => ⟨(o1 z hz).1.below hb, (o1 z hz).2.2⟩) (by decide) (by decide)
  have pC := of_nonneg (most := 100) (by decide) ((L.take 60).map (fun s => s.l))
  have sC := of_sum (most := 100) (by decide) (by decide) (L := (L.take 60).map (fun s => s.l)) (by rw [List.length_map, List.length_take]; omega)
  generalize of 100 ((L.take 60).map (fun s => s.l)) = C at *
  have HCNT : Hid (∀ (m : Nat), 1 ≤ m → m ≤ 4 → ∀ (W : World) (P : Nat → Prop) (a' q : Option Addr) (c' n c : Nat), TTx W P a' m c' (zeroR s m) → Tab W q n c 2 (C.map iiC) → Calls Try.prog 29 #[.agg #[.int .i64 s, .slice a' m c'], .slice q n c] W fun e w' => ∃ (a' : Option Addr) (c' : Nat), e = .returned (.tuple #[.agg #[.int .i64 s, .slice a' m c'], .bool true]) ∧ TTx w' anyB a' m c' (allR s C (zeroR s m)) ∧ Below W.heap.size W w') := Lib.hid (fun m k1 k2 W P a' q c' n c h1 h2 => counted_any s a' q m c' n c (zeroR s m) C P 0 W h1 h2 (zero_good s1 s2 k1 k2) (zero_most s m) (by decide) pC (by omega))
  have gA := all_zero_good s1 s2 (m := 1) (by decide) (by decide) pC (by omega)
  have gB := all_zero_good s1 s2 (m := 2) (by decide) (by decide) pC (by omega)
  have gD := all_zero_good s1 s2 (m := 4) (by decide) (by decide) pC (by omega)
  have q1 := ask_more (C := C) (k := key) s1 (show 1 ≤ 2 by decide)
  have q2 := ask_more (C := C) (k := key) s1 (show 2 ≤ 4 by decide)
  obtain ⟨ra, hra⟩ := row_there (s := s) (C := C) (show 0 < 1 by decide)
  obtain ⟨rb, hrb⟩ := row_there (s := s) (C := C) (show 0 < 2 by decide)
  obtain ⟨rc, hrc⟩ := row_there (s := s) (C := C) (show 1 < 2 by decide)
  obtain ⟨rd, hrd⟩ := row_there (s := s) (C := C) (show 1 < 4 by decide)
  have eab := row_same hra hrb
  have ecd := row_same hrc hrd
  subst eab ecd
  have HCA := Lib.hid (HCNT.out 1 (by decide) (by decide))
  have HCB := Lib.hid (HCNT.out 2 (by decide) (by decide))
  have HCD := Lib.hid (HCNT.out 4 (by decide) (by decide))
  generalize allR s C (zeroR s 1) = RA at *
  generalize allR s C (zeroR s 2) = RB at *
  generalize allR s C (zeroR s 4) = RD at *
  have HGA := Lib.hid gA
  have HGB := Lib.hid gB
  have HGD := Lib.hid gD
  have HRR := Lib.hid (And.intro hra (And.intro hrb (And.intro hrc hrd)))
  have HQ := Lib.hid (And.intro q1 q2)
  have HR1 := Lib.hid hR1
  have HR2 := Lib.hid hR2
  have HR3 := Lib.hid hR3
  have HC1 := Lib.hid hC1
  have h3 := tt_two w 0 1
  have hb1 := tt_lit2_below w 0 1
  have C0 := tput_fine 1 5 4 (some ⟨w.heap.size + 2, 0, none⟩) 2 2 [[0], [1]] anyB _ h3 (good_two (by decide) (by decide)) (by decide) (by decide) (by rw [put_two]; exact good_fits (good_two (by decide) (by decide)))
  rw [put_two, show (0 : Int) + 4 = 4 from rfl, show (1 : Int) + 4 = 5 from rfl] at C0
  have HC0 := Lib.hid C0
  have HB1 := Lib.hid hb1
  clear hR1 hR2 hR3 hC1 pC sC HCNT gA gB gD q1 q2 hra hrb hrc hrd h3 hb1 C0 t1 o1 b1 bb0 w0 w2
  go_enter Try.func8, Try.ntmps8
  go_wp2_with fail
  refine HC0.out.mono ?_
  rintro e v1 ⟨a7, c7, rfl, htt, hb⟩
  have hz := ST.new (W := 1) htt
  have HB2 := Lib.hid (below_on (below_on HB1.out hb) hz.2)
  obtain ⟨v2, hv⟩ : ∃ v, v1.alloc (.cells #[.int .i64 1, .slice a7 2 c7] 39) = v := ⟨_, rfl⟩
  rw [hv] at hz HB2
  obtain ⟨X7, hX⟩ : ∃ X, v1.heap.size = X := ⟨_, rfl⟩
  rw [hX] at hz
  have S7 := Lib.hid hz.1
  have HVX := Lib.hid (And.intro hv hX)
  clear hb htt hz hv hX HC0 HB1
  go_upto_region 2 with fail
  rw [HVX.out.1, HVX.out.2]
  clear HVX
  have hb1 := tt_lit2_below v2 4 5
  have D0 := Lib.hid (sameT_any 1 1 a7 (some ⟨v2.heap.size + 2, 0, none⟩) 2 c7 2 2 [[4], [5]] [[4], [5]] anyB anyB _ (S7.out.2.below hb1) (tt_two v2 4 5) true (by simp))
  have HB3 := Lib.hid (below_on HB2.out hb1)
  clear hb1 HB2
  obtain ⟨c0, c1⟩ := S7.out.cells
  go_wp2_with fail
  clear c0 c1 S7
  refine D0.out.mono ?_
  rintro e v3 ⟨rfl, hb⟩
  have HB4 := Lib.hid (below_on HB3.out hb)
  clear hb D0 HB3
  go_wp2_with fail
  refine (HC1.out _ HB4.out).mono ?_
  rintro e v4 ⟨q1, rfl, hO, hb⟩
  obtain ⟨qa, qn, qc, rfl, hTC⟩ := tab_of_own hO
  have HTC := Lib.hid hTC
  have HB5 := Lib.hid (below_on HB4.out hb)
  clear hb hO hTC HC1 HB4
  -- a
  go_wp2_with fail
  refine (HR1.out _).mono ?_
  rintro e v5 ⟨za, zc, rfl, htt, hb⟩
  have HTT := Lib.hid htt
  replace HTC := Lib.hid (HTC.out.below hb)
  have HB6 := Lib.hid (below_on HB5.out hb)
  clear hb htt HB5 HR1
  go_wp2_with fail
  refine (HCA.out _ _ _ _ _ _ _ HTT.out HTC.out).mono ?_
  rintro e v6 ⟨aA, cA, rfl, htt, hb⟩
  have hz := ST.new (W := s) htt
  replace HTC := Lib.hid ((HTC.out.below hb).below hz.2)
  have HB7 := Lib.hid (below_on (below_on HB6.out hb) hz.2)
  obtain ⟨v7, hv⟩ : ∃ v, v6.alloc (.cells #[.int .i64 s, .slice aA 1 cA] 39) = v := ⟨_, rfl⟩
  rw [hv] at hz HTC HB7
  obtain ⟨XA, hX⟩ : ∃ X, v6.heap.size = X := ⟨_, rfl⟩
  rw [hX] at hz
  have SA := Lib.hid hz.1
  have HVX := Lib.hid (And.intro hv hX)
  clear hb htt hz hv hX HTT HCA HB6
  go_upto_region 6 with fail
  rw [HVX.out.1, HVX.out.2]
  clear HVX
  -- b
  go_wp2_with fail
  refine (HR2.out _).mono ?_
  rintro e v8 ⟨zb, zd, rfl, htt, hb⟩
  have HTT := Lib.hid htt
  replace HTC := Lib.hid (HTC.out.below hb)
  replace SA := Lib.hid (SA.out.below hb)
  have HB8 := Lib.hid (below_on HB7.out hb)
  clear hb htt HB7 HR2
  go_wp2_with fail
  refine (HCB.out _ _ _ _ _ _ _ HTT.out HTC.out).mono ?_
  rintro e v9 ⟨aB, cB, rfl, htt, hb⟩
  have hz := ST.new (W := s) htt
  replace HTC := Lib.hid ((HTC.out.below hb).below hz.2)
  replace SA := Lib.hid ((SA.out.below hb).below hz.2)
  have HB9 := Lib.hid (below_on (below_on HB8.out hb) hz.2)
  obtain ⟨v10, hv⟩ : ∃ v, v9.alloc (.cells #[.int .i64 s, .slice aB 2 cB] 39) = v := ⟨_, rfl⟩
  rw [hv] at hz HTC HB9 SA
  obtain ⟨XB, hX⟩ : ∃ X, v9.heap.size = X := ⟨_, rfl⟩
  rw [hX] at hz
  have SB := Lib.hid hz.1
  have HVX := Lib.hid (And.intro hv hX)
  clear hb htt hz hv hX HTT HCB HB8
  go_upto_region 7 with fail
  rw [HVX.out.1, HVX.out.2]
  clear HVX
  -- d
  go_wp2_with fail
  refine (HR3.out _).mono ?_
  rintro e v11 ⟨ze, zf, rfl, htt, hb⟩
  have HTT := Lib.hid htt
  replace HTC := Lib.hid (HTC.out.below hb)
  replace SA := Lib.hid (SA.out.below hb)
  replace SB := Lib.hid (SB.out.below hb)
  have HB10 := Lib.hid (below_on HB9.out hb)
  clear hb htt HB9 HR3
  go_wp2_with fail
  refine (HCD.out _ _ _ _ _ _ _ HTT.out HTC.out).mono ?_
  rintro e v12 ⟨aD, cD, rfl, htt, hb⟩
  have hz := ST.new (W := s) htt
  replace SA := Lib.hid ((SA.out.below hb).below hz.2)
  replace SB := Lib.hid ((SB.out.below hb).below hz.2)
  have HB11 := Lib.hid (below_on (below_on HB10.out hb) hz.2)
  obtain ⟨v13, hv⟩ : ∃ v, v12.alloc (.cells #[.int .i64 s, .slice aD 4 cD] 39) = v := ⟨_, rfl⟩
  rw [hv] at hz HB11 SA SB
  obtain ⟨XD, hX⟩ : ∃ X, v12.heap.size = X := ⟨_, rfl⟩
  rw [hX] at hz
  have SD := Lib.hid hz.1
  have HVX := Lib.hid (And.intro hv hX)
  clear hb htt hz hv hX HTT HCD HB10 HTC
  go_upto_region 8 with fail
  rw [HVX.out.1, HVX.out.2]
  clear HVX
  go_cut [119] (fun p wx => p = .bool false ∧ Hid (Below v13.heap.size v13 wx))
  case first =>
    obtain ⟨a0, a1⟩ := SA.out.cells
    obtain ⟨b0, b1⟩ := SB.out.cells
    obtain ⟨d0, d1⟩ := SD.out.cells
    obtain ⟨f1, g1, ha, na, ca, e1, _, k1, T1, _, _, _⟩ := SA.out.2.row (Below.refl _ _) HRR.out.1
    obtain ⟨f2, g2, hb, nb, cb, e2, _, k2, T2, _, _, _⟩ := SB.out.2.row (Below.refl _ _) HRR.out.2.1
    obtain ⟨f3, g3, hc, nc, cc, e3, _, k3, T3, _, _, _⟩ := SB.out.2.row (Below.refl _ _) HRR.out.2.2.1
    obtain ⟨f4, g4, hd, nd, cd, e4, _, k4, T4, _, _, _⟩ := SD.out.2.row (Below.refl _ _) HRR.out.2.2.2
    rw [e2] at e3
    simp only [Option.some.injEq, Addr.mk.injEq, and_true] at e3
    obtain ⟨rfl, rfl⟩ := e3
    rw [Nat.add_zero] at k1 k2
    have E1 := Lib.hid (fun n => equalq_ints ha hb na ca nb cb ra ra (v13.drewN n) (T1.below (below_drewN (Below.refl _ _) n)) (T2.below (below_drewN (Below.refl _ _) n)) true (by simp))
    have E2 := Lib.hid (fun n => equalq_ints hc hd nc cc nd cd rc rc (v13.drewN n) (T3.below (below_drewN (Below.refl _ _) n)) (T4.below (below_drewN (Below.refl _ _) n)) true (by simp))
    rw [e1] at a1
    rw [e2] at b1
    rw [e4] at d1
    clear T1 T2 T3 T4 SA SB SD HGA HGB HGD HRR HQ HB11 e1 e2 e4
    go_wp2_with fail
    go_quiet (first | (go_at_call_of 35 (Value.slice ha na ca); exact Calls.quiet_of (E1.out _)) | (go_at_call_of 35 (Value.slice hc nc cc); exact Calls.quiet_of (E2.out _)))
    go_wp2_with fail
    go_meet
    case rel => exact ⟨rfl, Lib.hid (below_drewN (Below.refl _ _) _)⟩
  case rest =>
  obtain ⟨rfl, HBQ⟩ := hcut
  obtain ⟨wq, hwq⟩ : ∃ wq, wq = wc := ⟨_, rfl⟩
  subst hwq
  replace SA := Lib.hid (SA.out.below HBQ.out)
  replace SB := Lib.hid (SB.out.below HBQ.out)
  replace SD := Lib.hid (SD.out.below HBQ.out)
  have HB12 := Lib.hid (below_on HB11.out HBQ.out)
  have D1 := Lib.hid (task_ok s key aA 1 cA RA anyB wq SA.out.2 HGA.out)
  have D2 := Lib.hid (fun W (h : TTx W anyB aB 2 cB RB) => task_ok s key aB 2 cB RB anyB W h HGB.out)
  have D3 := Lib.hid (fun W (h : TTx W anyB aD 4 cD RD) => task_ok s key aD 4 cD RD anyB W h HGD.out)
  have q1 := HQ.out.1
  have q2 := HQ.out.2
  generalize askR s key RA = A at *
  generalize askR s key RB = B at *
  generalize askR s key RD = D at *
  have t1 : decide (B ≤ A) = true := decide_eq_true q1
  have t2 : decide (D ≤ B) = true := decide_eq_true q2
  clear HBQ HB11 HQ HRR HGA HGB HGD
  obtain ⟨c0, c1⟩ := SA.out.cells
  go_wp2_with fail
  clear c0 c1
  refine D1.out.mono ?_
  rintro e w1 ⟨rfl, hb⟩
  replace SB := Lib.hid (SB.out.below hb)
  replace SD := Lib.hid (SD.out.below hb)
  have HB13 := Lib.hid (below_on HB12.out hb)
  clear hb D1 HB12 SA
  obtain ⟨c0, c1⟩ := SB.out.cells
  go_wp2_with fail
  clear c0 c1
  refine (D2.out _ SB.out.2).mono ?_
  rintro e w2 ⟨rfl, hb⟩
  replace SD := Lib.hid (SD.out.below hb)
  have HB14 := Lib.hid (below_on HB13.out hb)
  clear hb D2 HB13 SB
  obtain ⟨c0, c1⟩ := SD.out.cells
  go_wp2_with fail
  clear c0 c1
  refine (D3.out _ SD.out.2).mono ?_
  rintro e w3 ⟨rfl, hb⟩
  have HB15 := Lib.hid (below_on HB14.out hb)
  clear hb D3 HB14 SD
  go_wp2_with fail
  go_ret
  exact ⟨rfl, HB15.out⟩

set_option maxRecDepth 100000 in
theorem lifted (os : Os) (started : os.Started) (H : Type) (enc : TypeId × Value → H) :
    ReturnsInHanded {} Try.checked os 8 .any (Rows.tableWideSpec.pre6 enc Try.prog Try.f8 Rows.tableWideRow.domain false) (Rows.tableWideSpec.post enc Try.prog Try.f8 false true false false) := by
  refine returnsInHanded_of_change_sized (C := Try.checked) own started (by kernel_rfl) Try.func8
    (ChangeSpec.witness6 (enc := enc) (C := Try.checked) false ⟨#[], #[.int .i64 0, .slice none 0 0, .int .i64 0], []⟩ 8 (by kernel_rfl) (by kernel_rfl) (by kernel_rfl) (by kernel_rfl)) ?_
  intro W base args ds gs before hval0 hW hcnd hsz0 _
  have hval : ∀ (j : Nat) t v, Try.f8.params[j]? = some t → args[j]? = some v → Value.okWide Try.prog W .any base t v := hval0
  have hW' := hW
  obtain ⟨p, q, hA0, hV, rfl, hfz, hnd⟩ := hW
  have hA : DataW.TrodAll enc Try.prog W 0 (fun _ => true) true Try.f8.params.toList args.toList ds p := hA0
  have hsz : (DataW.weightsEach Try.prog (Try.f8.params.toList ++ Rows.tableWideSpec.plain.varTypes Try.prog) (ds ++ gs)).all (· ≤ reachBytes) = true := hsz0
  rw [Try.params8] at hA hval hsz
  obtain ⟨v0, vs0, d0, ds0, p0, q0, hargs, rfl, rfl, h0, r0⟩ := trodAll_cons hA
  obtain ⟨v1, vs1, d1, ds1, p1, q1, rfl, rfl, rfl, h1, r1⟩ := trodAll_cons r0
  obtain ⟨v2, vs2, d2, ds2, p2, q2, rfl, rfl, rfl, h2, r2⟩ := trodAll_cons r1
  obtain ⟨rfl, rfl, rfl⟩ := trodAll_nil r2
  obtain rfl : args = #[v0, v1, v2] := by cases args; simp_all
  obtain ⟨rfl, rfl⟩ := trodVars_none hV
  have k0 := h0
  have L0 := light_of hsz (j := 0) (t := 3) (d := d0) rfl rfl
  have lt0 : ∀ x ∈ p0, x.block < W.heap.size := by obtain ⟨m, hm⟩ := k0; exact DataW.trod_lt m _ _ _ hm
  obtain ⟨x0, rfl, rfl, rfl, w0⟩ := open_int Try.underlying3 (hval 0 3 v0 rfl rfl) h0
  have k1 := h1
  have L1 := light_of hsz (j := 1) (t := 37) (d := d1) rfl rfl
  have lt1 : ∀ x ∈ p1, x.block < W.heap.size := by obtain ⟨m, hm⟩ := k1; exact DataW.trod_lt m _ _ _ hm
  obtain ⟨a1, len1, cap1, rfl⟩ := okWide_slice Try.underlying37 (hval 1 37 v1 rfl rfl)
  obtain ⟨n1, f1⟩ := trod_slice_of Try.underlying37 h1
  have F1 := And.intro f1 L1
  obtain ⟨x1, e1, t1, b1, o1⟩ := el_slice (w := W) (k := 1) slC (fun y : Sl Int => Tab W y.a y.len y.cap 1 (y.l.map iC) ∧ y.len * 8 ≤ 140737488351232 ∧ ∀ z ∈ y.l, wfI z) (by decide) Try.underlying37 (by kernel_rfl) (el_slice (k := 1) iC wfI (by decide) Try.underlying34 (by kernel_rfl) (el_int Try.underlying3) (B := 8) (by kernel_rfl)) (B := 24) (by kernel_rfl) _ _ _ F1.1 F1.2
  simp only [slC, List.cons.injEq, Value.slice.injEq, and_true] at e1
  obtain ⟨rfl, rfl, rfl⟩ := e1
  have k2 := h2
  have L2 := light_of hsz (j := 2) (t := 3) (d := d2) rfl rfl
  have lt2 : ∀ x ∈ p2, x.block < W.heap.size := by obtain ⟨m, hm⟩ := k2; exact DataW.trod_lt m _ _ _ hm
  obtain ⟨x2, rfl, rfl, rfl, w2⟩ := open_int Try.underlying3 (hval 2 3 v2 rfl rfl) h2
  clear hA0 hval0
  refine (walk x0 x1 x2 W w0 t1 b1 o1 w2).mono fun e W' ⟨he, hg⟩ => ?_
  subst he
  exact ⟨_, rfl, _, _, _, [], _, [], hW', trodAll_mk1 (shut_bool Try.underlying4 _), (trodAll_cons_mk (Below.trod laidOut (by kernel_rfl) (of_decide_eq_true (by kernel_rfl)) k0 hg lt0) (trodAll_cons_mk (Below.trod laidOut (by kernel_rfl) (of_decide_eq_true (by kernel_rfl)) k1 hg lt1) (trodAll_cons_mk (Below.trod laidOut (by kernel_rfl) (of_decide_eq_true (by kernel_rfl)) k2 hg lt2) trodAll_mk0))), rfl, hg.frame _, fun h => by cases h⟩

theorem over : Rows.tableWideRow.holds Try.pinned (OpenSpec.ofChange Rows.tableWideSpec) :=
  OpenClaim.holds_of_wide 8 Try.f8 rfl rfl rfl rfl rfl rfl rfl ⟨rfl, rfl, rfl, rfl, rfl⟩ rfl rfl rfl rfl rfl (by kernel_rfl) Try.func8 (by kernel_rfl)
    (of_decide_eq_true (by kernel_rfl)) (by unfold Func.isWrapper; first | (rw [if_pos (by decide +kernel)]; kernel_rfl) | (rw [if_neg (by decide +kernel)]; exact ⟨rfl, rfl⟩))
    (fun os started H enc _ => lifted os started H enc)

/-- ████ THE STATEMENT ████ -/
theorem proved : Rows.TableWideSaid :=
  over
#print axioms proved
end Go.Proofs.Ytcfejbhoeichnaa.tableWide
