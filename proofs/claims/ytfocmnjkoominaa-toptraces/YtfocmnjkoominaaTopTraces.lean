/-
  'Rows.TopTracesSaid' is proved: a mended trace is kept whole by its own random value, and what its kept spans stand for is the estimate of ones. No condition.
-/
import Derived.Test.YtfocmnjkoominaaRows
import Derived.Test.YtfocmnjkoominaaShapes
import Derived.Test.YtfocmnjkoominaaBegun
import Derived.Test.YtfocmnjkoominaaTraceMath
import Derived.Test.YtfocmnjkoominaaSpanKept
import Derived.Test.YtfocmnjkoominaaSpanMend
import Derived.Test.YtfocmnjkoominaaOf
import Derived.Test.YtfocmnjkoominaaRepeatOne
import Derived.Test.YtfocmnjkoominaaEstSum
import Derived.Test.YtfocmnjkoominaaSubSlice
import Derived.Test.YtfocmnjkoominaaStepRows
import Derived.Test.YtfocmnjkoominaaInfoSpans
import Derived.Deep.DeepCutAuto
import Derived.Deep.LoopGhost
import Derived.BigQuiet
import Derived.Deep.QuietTactic
import Derived.Deep.RegionWith
import Derived.WalkKit
import Derived.ProofKit
import Derived.OpenShut
import Derived.ShutString
import Derived.ChangeOld
import Derived.Below
namespace Go.Proofs.Ytfocmnjkoominaa.topTraces
open Go.ChangeShapes Go.WideShapes Go.ChangeAt Go.RowKit
open Go.ChangeMaps (open_string shut_string)
set_option linter.unusedVariables false

theorem own : ownKnob Try.prog.godebug = none := by kernel_rfl
theorem laidOut : laidOutB Try.prog = true := by kernel_rfl

open Span Est
theorem size_intsT (w : World) : (sizeOf 22).run Try.prog w = .ok 1 w := by kernel_rfl
theorem elem_intsT : Try.prog.elem 50 = 22 := by kernel_rfl

set_option maxRecDepth 100000 in
set_option maxHeartbeats 2000000 in
theorem walk (x0 : Sl (Sl Int)) (x1 : ByteArray) (w : World) (t0 : Tab w x0.a x0.len x0.cap 1 (x0.l.map slC)) (b0 : x0.len * 24 ≤ 140737488351232) (o0 : ∀ z ∈ x0.l, (fun y : Sl Int => Tab w y.a y.len y.cap 1 (y.l.map iC) ∧ y.len * 8 ≤ 140737488351232 ∧ ∀ z ∈ y.l, wfI z) z) (w1 : x1.size ≤ 140737488351232) :
    Calls Try.prog 6 #[.slice x0.a x0.len x0.cap, .string x1] w fun e w' => e = .returned (.bool true) ∧ Below w.heap.size w w' := by
  obtain ⟨a, len, cap, L⟩ := x0
  have hl := t0.hlen
  rw [List.length_map] at hl
  have hc : len ≤ cap := t0.hle
  have hm : cap ≤ 9223372036854775807 := by have h := t0.hmax; unfold maxLen at h; simpa using h
  obtain ⟨n, hn⟩ : ∃ n, min len 40 = n := ⟨_, rfl⟩
  have hn1 : n ≤ len := by omega
  have hn2 : n ≤ 40 := by omega
  have hl' : L.length = len := hl
  have HL := Lib.hid hl'
  have HT := Lib.hid t0
  have HO : Hid (∀ z ∈ L, Tab w z.a z.len z.cap 1 (z.l.map iC) ∧ ∀ y ∈ z.l, wfI y) := Lib.hid (fun z hz => ⟨(o0 z hz).1, (o0 z hz).2.2⟩)
  have rU := run_upto 50 22 1 Try.underlying50 elem_intsT size_intsT a len cap n (by omega)
  clear t0 o0 hl hl'
  go_enter Try.func6, Try.ntmps6
  go_wp2_with fail
  refine (begun_any _).mono ?_
  rintro e v1 ⟨rfl, hb1⟩
  have HB1 := Lib.hid hb1
  clear hb1
  go_upto_region 3 with fail
  go_cut [1] (fun s wx => ∃ q : ByteArray, s = .string q ∧ q.size ≤ 200 ∧ wx = v1)
  case first =>
    by_cases h200 : x1.size ≤ 200
    · go_wp2_with fail
      go_meet
      case rel => exact ⟨_, rfl, by rw [ByteArray.size_extract]; omega, rfl⟩
    · have h200' : 200 < x1.size := by omega
      clear h200
      go_wp2_with fail
      go_meet
      case rel => exact ⟨_, rfl, by rw [ByteArray.size_extract]; omega, rfl⟩
  case rest =>
  obtain ⟨q, rfl, hq, hv⟩ := hcut
  have hv := hv.symm
  subst hv
  have C12 := Lib.hid (fun W => of_small q W hq)
  have hR := ofI_bd q.data.toList
  generalize ofI q.data.toList = R at *
  go_upto_region 5 with fail
  go_cut [34, 35, 36] (fun s t i wx => s = .slice a n cap ∧ t = .int .i64 n ∧ i = .int .i64 0 ∧ wx = v1)
  case first =>
    by_cases h9 : len ≤ 40
    · obtain rfl : n = len := by omega
      clear hn
      go_wp2_with fail
      go_meet
      case rel => exact ⟨congrArg (fun t => Value.slice a t cap) (by omega), congrArg (Value.int IntKind.i64) (by omega), rfl, rfl⟩
    · obtain rfl : n = 40 := by omega
      have h9' : 40 < len := by omega
      clear hn h9
      go_wp2_with fail
      go_meet
      case rel => exact ⟨congrArg (fun t => Value.slice a t cap) (by omega), congrArg (Value.int IntKind.i64) (by omega), rfl, rfl⟩
  case rest =>
  obtain ⟨rfl, rfl, rfl, hv⟩ := hcut
  have hv := hv.symm
  subst hv
  clear rU hn
  go_wp2_with fail
  go_loopg [5, 36] n (fun g v i wr => ∃ k : Nat, k + g = n ∧ i = .int .i64 k ∧ Hid (Own wr v1.heap.size 54 2 v ((Trace.spansT (L.take k)).map iiC)) ∧ Hid (Below v1.heap.size v1 wr))
  case atStart => exact ⟨0, by omega, rfl, Lib.hid (Own.nil _ _ _ _), Lib.hid (Below.refl _ _)⟩
  case round =>
    obtain ⟨k, hk0, rfl, HV, HB⟩ := hrel
    have HJ := Lib.hid hk0
    have hk : k ≤ n := by omega
    clear hk0
    by_cases hlt : k < n
    · obtain ⟨c, hx⟩ : ∃ x, L[k]? = some x := ⟨_, List.getElem?_eq_getElem (by rw [HL.out]; omega)⟩
      obtain ⟨b1, o1, ha, hbs, c0⟩ := HT.out.one (below_on HB1.out HB.out) (map_get hx)
      have HN := Lib.hid (Trace.spansT_take hx)
      have ho := HO.out c (List.mem_of_getElem? hx)
      have HVL : Hid (((Trace.spansT (L.take k)).map iiC).length ≤ 40) := Lib.hid (by rw [List.length_map, Trace.spansT_len, List.length_take]; omega)
      obtain ⟨ca, cl, cc, cs⟩ := c
      simp only at ho c0 HN
      have hcl := ho.1.hlen
      rw [List.length_map] at hcl
      have HCL := Lib.hid hcl
      have HOO := Lib.hid ho
      have hcm := ho.1.hmax
      have hcc := ho.1.hle
      unfold maxLen at hcm
      subst ha
      clear hx ho hcl
      obtain ⟨wo, hwo⟩ : ∃ wo, wo = wr := ⟨_, rfl⟩
      subst hwo
      have HQ := Lib.hid (below_on HB1.out HB.out)
      go_upto_if 43 with fail
      go_cut [7] (fun s wx => ∃ (b2 o2 m cm : Nat) (x z : Int), s = .slice (some ⟨b2, o2, none⟩) m cm ∧ 2 ≤ m ∧ wfI x ∧ wfI z ∧ Hid (Trace.spanT k cs = (withI x ((k : Int) + 1) - 1, withI z 7)) ∧ Hid (wx.cell? ⟨b2, o2, none⟩ = some (.int .i64 x) ∧ wx.cell? ⟨b2, o2 + 1, none⟩ = some (.int .i64 z)) ∧ Hid (Below wo.heap.size wo wx))
      case first =>
        by_cases e2 : cl < 2
        · have hS : Trace.two cs = [0, 0] := if_pos (by rw [HCL.out]; exact e2)
          go_wp2_with fail
          go_meet
          case rel => 
            have hX := (MapKept.heap_alloc wo (.cells #[.int .i64 0, .int .i64 0] 3)).1
            exact ⟨wo.heap.size, 0, 2, 2, 0, 0, rfl, Nat.le_refl _, rfl, rfl, Lib.hid (by unfold Trace.spanT; rw [hS]; rfl), Lib.hid ⟨cell_blk (i := 0) hX rfl, cell_blk (i := 1) hX rfl⟩, Lib.hid ((Below.refl _ _).alloc (Nat.le_refl _) _)⟩
        · obtain ⟨x, hx⟩ : ∃ x, cs[0]? = some x := ⟨_, List.getElem?_eq_getElem (by rw [HCL.out]; omega)⟩
          obtain ⟨z, hz⟩ : ∃ x, cs[1]? = some x := ⟨_, List.getElem?_eq_getElem (by rw [HCL.out]; omega)⟩
          obtain ⟨b2, o2, ha2, hbs2, d0⟩ := HOO.out.1.one HQ.out (map_get hx)
          obtain ⟨b3, o3, ha3, hbs3, d1⟩ := HOO.out.1.one HQ.out (map_get hz)
          rw [ha2] at ha3
          simp only [Option.some.injEq, Addr.mk.injEq, and_true] at ha3
          obtain ⟨rfl, rfl⟩ := ha3
          have hS : Trace.two cs = cs := if_neg (by rw [HCL.out]; exact e2)
          have hwx := HOO.out.2 x (List.mem_of_getElem? hx)
          have hwz := HOO.out.2 z (List.mem_of_getElem? hz)
          have HS : Hid (Trace.spanT k cs = (withI x ((k : Int) + 1) - 1, withI z 7)) := Lib.hid (by unfold Trace.spanT; rw [hS, hx, hz]; rfl)
          have HD := Lib.hid (And.intro d0 d1)
          subst ha2
          clear hx hz hS d0 d1
          have e3 : 2 ≤ cl := by omega
          go_wp2_with fail
          go_meet
          case rel => exact ⟨b2, o2, cl, cc, x, z, rfl, e3, hwx, hwz, HS, HD, Lib.hid (Below.refl _ _)⟩
      case rest =>
      obtain ⟨b2, o2, m, cm, x, z, rfl, hm2, hwx, hwz, HS, HD, HBX⟩ := hcut
      have bx := withI_bd x ((k : Int) + 1) (by omega)
      have bz := withI_bd z 7 (by omega)
      have eK : IntKind.i64.wrap ((k : Int) + 1) = (k : Int) + 1 := by rw [IntKind.wrap_i64]; omega
      have HW1 := fun W => within_int x ((k : Int) + 1) W (wf_i64 hwx) (by omega) (by omega)
      rw [← eK] at HW1
      have HW2 := fun W => within_int z 7 W (wf_i64 hwz) (by omega) (by omega)
      rw [eK] at HW1
      rw [HS.out] at HN
      have HW1 : Hid (∀ W, Calls Try.prog 26 #[.int .i64 x, .int .i64 (IntKind.i64.wrap ((k : Int) + 1))] W fun e w' => e = .returned (.int .i64 (withI x ((k : Int) + 1))) ∧ W = w') := Lib.hid (fun W => by rw [eK]; exact within_int x ((k : Int) + 1) W (wf_i64 hwx) (by omega) (by omega))
      have HW2 := Lib.hid HW2
      generalize withI x ((k : Int) + 1) = y at *
      generalize withI z 7 = u at *
      have eY : IntKind.i64.wrap (y - 1) = y - 1 := by rw [IntKind.wrap_i64]; omega
      have HY := Lib.hid eY
      have HO5 := Lib.hid (HV.out.below HBX.out)
      have HB5 := Lib.hid (HB.out.trans (HBX.out.mono HB.out.size))
      have hs5 := HB5.out.size
      obtain ⟨d0, d1⟩ := HD.out
      have hl9 : ((Trace.spansT (L.take k)).map iiC).length ≤ 40 := HVL.out
      clear eK eY hwx hwz HS HVL HD
      obtain ⟨wd, hwd⟩ : ∃ w', w' = wc := ⟨_, rfl⟩
      subst hwd
      have m0 : 0 < m := by omega
      have m1 : (1 : Int) < (m : Int) := by omega
      go_wp2_with fail
      go_region_law (first
        | (go_simp; go_at_call_of 26 (Value.int .i64 x); refine (HW1.out _).mono ?_; rintro e w5 ⟨rfl, rfl⟩)
        | (go_simp; go_at_call_of 26 (Value.int .i64 z); refine (HW2.out _).mono ?_; rintro e w5 ⟨rfl, rfl⟩)
        | (refine step_append_rows _ rfl _ _ 52 rfl v1.heap.size 54 _ 2 16 Try.underlying52 info_span rfl (by decide) _ ((Trace.spansT (L.take k)).map iiC) (by simp [Act.eval, Act.put]) ((HO5.out.alloc _).drew) ⟨wd.heap.size, 0, none⟩ 1 1 [iiC (IntKind.i64.wrap (y - 1), u)] (by decide) rfl (by simp [Act.eval, Act.put]) (by simp [iiC]) (one_row _ (iiC (IntKind.i64.wrap (y - 1), u)) 54 _ (by simp)) (by simp [iiC, Value.oneCell']) (by omega) (by decide) (by simp; omega) ?_; intro g6 c6 w6 hO6 hg6))
      all_goals
        rw [List.length_map, HY.out] at hO6
        go_wp2_with fail
        go_roundg (n - (k + 1))
        case measure => have := HJ.out; omega
        case rel =>
          refine ⟨k + 1, by omega, by go_num, ?_, ?_⟩
          · rw [HN.out, List.map_append]; exact Lib.hid hO6
          · exact Lib.hid (((HO5.out.alloc _).drew).under ((HB5.out.alloc hs5 _).drew) (Nat.le_refl _) (by simp; omega) hg6)
    · obtain rfl : k = n := by omega
      have hsl : (Trace.spansT (L.take k)).length = k := by rw [Trace.spansT_len, List.length_take, HL.out]; omega
      have HOK : Hid (spansE (Trace.spansT (L.take k)) = 0) := Lib.hid (Trace.spansT_ok (by rw [List.length_take]; omega))
      generalize Trace.spansT (L.take k) = s at *
      obtain ⟨av, cv, rfl, hTv⟩ := HV.out.tab
      rw [List.length_map, hsl] at hTv ⊢
      have C13 := Lib.hid (mend_ok av k cv s wr hTv HOK.out)
      have HMO := Lib.hid (mendL_ok HOK.out)
      have HMW := Lib.hid (Trace.kept_whole HOK.out R)
      have hml : (mendL s).length = k := (mendL_len s).trans hsl
      have HML := Lib.hid hml
      have hON := Trace.ones_sum HMO.out hR.1 hR.2
      rw [hml] at hON
      have HON := Lib.hid hON
      have hBR := Lib.hid (below_on HB1.out HB.out)
      have hR0 := hR.1
      have hR1 := hR.2
      generalize mendL s = M at *
      obtain ⟨wq, hwq⟩ : ∃ wq, wq = wr := ⟨_, rfl⟩
      subst hwq
      clear HV HB HB1 HOK hsl hTv hml hON HT HO HL
      go_wp2_with fail
      refine (C12.out _).mono ?_
      rintro e w2 ⟨rfl, hw2⟩
      rw [← hw2]
      clear hw2 C12
      go_wp2_with fail
      refine C13.out.mono ?_
      rintro e w5 ⟨s5, rfl, hO5, hb5⟩
      obtain ⟨q5, cap5, rfl, hT5⟩ := hO5.tab
      rw [List.length_map, HML.out] at hT5 ⊢
      have HT5 := Lib.hid hT5
      have HB5 := Lib.hid (below_on hBR.out hb5)
      have C14 := Lib.hid (kept_ok q5 k cap5 M R w5 hT5 HMO.out hR0 hR1)
      clear hO5 hT5 hb5 C13
      go_wp2_with fail
      refine C14.out.mono ?_
      rintro e w6 ⟨s6, rfl, hO6, hb6⟩
      obtain ⟨q6, cap6, rfl, hT6⟩ := hO6.tab
      rw [List.length_map, keptL_len, HML.out] at hT6 ⊢
      have HT6 := Lib.hid hT6
      have HT56 := Lib.hid (HT5.out.below hb6)
      have HB6 := Lib.hid (below_on HB5.out hb6)
      have hKE : keptE M k = 0 := by unfold keptE; rw [HMO.out, if_pos rfl, HML.out, if_pos rfl]
      have HKE := Lib.hid hKE
      have C15 := Lib.hid (whole_ok q5 q6 k cap5 k cap6 M (keptL M R) w6 HT56.out hT6 hKE true (by simp only [true_iff]; exact HMW.out))
      clear hO6 hT6 hb6 C14 HT5 hKE
      go_wp2_with fail
      refine C15.out.mono ?_
      rintro e w7 ⟨rfl, hb7⟩
      have HT7 := Lib.hid (HT56.out.below hb7)
      have HB7 := Lib.hid (below_on HB6.out hb7)
      have C16 := Lib.hid (count_ok q5 q6 k cap5 k cap6 M (keptL M R) w7 HT7.out (HT6.out.below hb7) HKE.out)
      clear hb7 C15 HT56 HT6
      have HCN := Lib.hid HON.out.2
      obtain ⟨X, hX⟩ : ∃ X, countTo M (keptL M R) k = X := ⟨_, rfl⟩
      rw [hX] at C16 HCN
      clear hX
      have t1 : ((k : Int) != (k : Int)) = false := by simp
      go_wp2_with fail
      refine C16.out.mono ?_
      rintro e w8 ⟨rfl, hb8⟩
      have HT8 := Lib.hid (HT7.out.below hb8)
      have HB8 := Lib.hid (below_on HB7.out hb8)
      clear hb8 C16 HT7 HB7 HB6 HB5 hBR
      go_wp2_with fail
      clear t1
      go_loopg [18, 120] k (fun g v i wr => ∃ j : Nat, j + g = k ∧ i = .int .i64 j ∧ Hid (Own wr w8.heap.size 3 1 v ((listTo (Trace.levelT M) j).map iC)) ∧ Hid (Below w8.heap.size w8 wr))
      case atStart => exact ⟨0, by omega, rfl, Lib.hid (Own.nil _ _ _ _), Lib.hid (Below.refl _ _)⟩
      case round =>
        obtain ⟨j, hj0, rfl, HV, HB⟩ := hrel
        have HJ2 := Lib.hid hj0
        have hj : j ≤ k := by omega
        clear hj0
        by_cases hlt : j < k
        · obtain ⟨⟨u, t⟩, hx⟩ : ∃ x, M[j]? = some x := ⟨_, List.getElem?_eq_getElem (by rw [HML.out]; exact hlt)⟩
          obtain ⟨b3, o3, ha3, hbs3, d3, d4⟩ := HT8.out.two HB.out (map_get hx)
          have HN : Hid (listTo (Trace.levelT M) (j + 1) = listTo (Trace.levelT M) j ++ [t]) := Lib.hid (by rw [listTo_succ, Trace.levelT_get hx])
          have HVL : Hid (((listTo (Trace.levelT M) j).map iC).length ≤ 40) := Lib.hid (by rw [List.length_map, listTo_len]; omega)
          have hX := (MapKept.heap_alloc wr (.cells #[.int .i64 u, .int .i64 t] 54)).1
          have p1 := cell_blk (i := 1) hX rfl
          subst ha3
          clear hx hX
          go_wp2_with (at_builtin; refine wpList_append_rows _ rfl _ _ 22 rfl w8.heap.size 3 _ 1 8 Try.underlying22 info_int rfl (by decide) _ ((listTo (Trace.levelT M) j).map iC) rfl ((HV.out.alloc _).alloc _) ⟨wr.heap.size + 1, 0, none⟩ 1 1 [iC t] rfl rfl (by simp [iC]) (one_row _ (iC t) 3 _ (by simp)) (by simp [iC, Value.oneCell']) (by have := HVL.out; omega) (by decide) (Nat.le_trans HB.out.size (by simp; omega)) ?_; intro v6 w6 hO6 hg6)
          go_roundg (k - (j + 1))
          case measure => have := HJ2.out; omega
          case rel =>
            refine ⟨j + 1, by omega, by go_num, ?_, ?_⟩
            · rw [HN.out, List.map_append]; exact Lib.hid hO6
            · exact Lib.hid (((HV.out.alloc _).alloc _).under ((HB.out.alloc HB.out.size _).alloc (Nat.le_trans HB.out.size (by simp)) _) (Nat.le_refl _) (Nat.le_trans HB.out.size (by simp; omega)) hg6)
        · obtain rfl : j = k := by omega
          obtain ⟨al, cl, rfl, hTl⟩ := HV.out.tab
          rw [List.length_map, listTo_len] at hTl ⊢
          have HTL := Lib.hid hTl
          have HBR := Lib.hid (below_on HB8.out HB.out)
          obtain ⟨wq, hwq⟩ : ∃ wq, wq = wr := ⟨_, rfl⟩
          subst hwq
          have C1 := Lib.hid (repeat_one 1 (some ⟨wq.heap.size, 0, none⟩) 1 j _ (tab_lit wq 3 1 1 ([(1 : Int)].map iC) #[.int .i64 1] rfl rfl (rows_of iC_len _) (by unfold maxLen; omega) _ rfl) hn2)
          have HBA : Hid (Below wq.heap.size wq (wq.alloc (.cells #[.int .i64 1] 3))) := Lib.hid ((Below.refl _ _).alloc (Nat.le_refl _) _)
          clear HV HB HB8 HT8 hTl HMO HMW
          go_wp2_with fail
          refine C1.out.mono ?_
          rintro e v5 ⟨rfl, hO5, hb5⟩
          generalize (wq.alloc (.cells #[.int .i64 1] 3)).heap.size = G at hO5 ⊢
          have HBB := Lib.hid (below_on HBA.out hb5)
          have HT1 := Lib.hid hO5.tab_of
          have C2 := Lib.hid (repeat_one R (some ⟨v5.heap.size, 0, none⟩) 1 j _ (tab_lit v5 3 1 1 ([R].map iC) #[.int .i64 R] rfl rfl (rows_of iC_len _) (by unfold maxLen; omega) _ rfl) hn2)
          have HBD : Hid (Below v5.heap.size v5 (v5.alloc (.cells #[.int .i64 R] 3))) := Lib.hid ((Below.refl _ _).alloc (Nat.le_refl _) _)
          clear hO5 hb5 C1 HBA
          go_wp2_with fail
          refine C2.out.mono ?_
          rintro e v6 ⟨rfl, hO6, hb6⟩
          generalize (v5.alloc (.cells #[.int .i64 R] 3)).heap.size = G2 at hO6 ⊢
          have HBE := Lib.hid (below_on HBD.out hb6)
          have HBF := Lib.hid (below_on HBB.out HBE.out)
          have C3 := sum_any _ al _ j j j cl j j _ _ _ v6 (HT1.out.below HBE.out) (HTL.out.below HBF.out) hO6.tab_of
          rw [HON.out.1, HCN.out] at C3
          have C3 := Lib.hid C3
          have HBG := Lib.hid (below_on HBR.out HBF.out)
          have t3 : (X == X) = true := by simp
          clear hO6 hb6 C2 HBD
          go_wp2_with fail
          refine C3.out.mono ?_
          rintro e v7 ⟨rfl, hb7⟩
          go_wp2
          go_ret
          exact ⟨rfl, below_on HBG.out hb7⟩

set_option maxRecDepth 100000 in
theorem lifted (os : Os) (started : os.Started) (H : Type) (enc : TypeId × Value → H) :
    ReturnsInHanded {} Try.checked os 6 .any (Rows.topTracesSpec.pre6 enc Try.prog Try.f6 Rows.topTracesRow.domain false) (Rows.topTracesSpec.post enc Try.prog Try.f6 false true false false) := by
  refine returnsInHanded_of_change_sized (C := Try.checked) own started (by kernel_rfl) Try.func6
    (ChangeSpec.witness6 (enc := enc) (C := Try.checked) false ⟨#[], #[.slice none 0 0, .string ByteArray.empty], []⟩ 8 (by kernel_rfl) (by kernel_rfl) (by kernel_rfl) (by kernel_rfl)) ?_
  intro W base args ds gs before hval0 hW hcnd hsz0 _
  have hval : ∀ (j : Nat) t v, Try.f6.params[j]? = some t → args[j]? = some v → Value.okWide Try.prog W .any base t v := hval0
  have hW' := hW
  obtain ⟨p, q, hA0, hV, rfl, hfz, hnd⟩ := hW
  have hA : DataW.TrodAll enc Try.prog W 0 (fun _ => true) true Try.f6.params.toList args.toList ds p := hA0
  have hsz : (DataW.weightsEach Try.prog (Try.f6.params.toList ++ Rows.topTracesSpec.plain.varTypes Try.prog) (ds ++ gs)).all (· ≤ reachBytes) = true := hsz0
  rw [Try.params6] at hA hval hsz
  obtain ⟨v0, vs0, d0, ds0, p0, q0, hargs, rfl, rfl, h0, r0⟩ := trodAll_cons hA
  obtain ⟨v1, vs1, d1, ds1, p1, q1, rfl, rfl, rfl, h1, r1⟩ := trodAll_cons r0
  obtain ⟨rfl, rfl, rfl⟩ := trodAll_nil r1
  obtain rfl : args = #[v0, v1] := by cases args; simp_all
  obtain ⟨rfl, rfl⟩ := trodVars_none hV
  have k0 := h0
  have L0 := light_of hsz (j := 0) (t := 50) (d := d0) rfl rfl
  have lt0 : ∀ x ∈ p0, x.block < W.heap.size := by obtain ⟨m, hm⟩ := k0; exact DataW.trod_lt m _ _ _ hm
  obtain ⟨a0, len0, cap0, rfl⟩ := okWide_slice Try.underlying50 (hval 0 50 v0 rfl rfl)
  obtain ⟨n0, f0⟩ := trod_slice_of Try.underlying50 h0
  have F0 := And.intro f0 L0
  obtain ⟨x0, e0, t0, b0, o0⟩ := el_slice (w := W) (k := 1) slC (fun y : Sl Int => Tab W y.a y.len y.cap 1 (y.l.map iC) ∧ y.len * 8 ≤ 140737488351232 ∧ ∀ z ∈ y.l, wfI z) (by decide) Try.underlying50 (by kernel_rfl) (el_slice (k := 1) iC wfI (by decide) Try.underlying22 (by kernel_rfl) (el_int Try.underlying3) (B := 8) (by kernel_rfl)) (B := 24) (by kernel_rfl) _ _ _ F0.1 F0.2
  simp only [slC, List.cons.injEq, Value.slice.injEq, and_true] at e0
  obtain ⟨rfl, rfl, rfl⟩ := e0
  have k1 := h1
  have L1 := light_of hsz (j := 1) (t := 9) (d := d1) rfl rfl
  have lt1 : ∀ x ∈ p1, x.block < W.heap.size := by obtain ⟨m, hm⟩ := k1; exact DataW.trod_lt m _ _ _ hm
  obtain ⟨x1, rfl, rfl, rfl, _⟩ := open_string Try.underlying9 (hval 1 9 v1 rfl rfl) h1
  have w1 : x1.size ≤ 140737488351232 := L1 x1.size (by simp [DataW.weights])
  clear hA0 hval0
  refine (walk x0 x1 W t0 b0 o0 w1).mono fun e W' ⟨he, hg⟩ => ?_
  subst he
  exact ⟨_, rfl, _, _, _, [], _, [], hW', trodAll_mk1 (shut_bool Try.underlying4 _), (trodAll_cons_mk (Below.trod laidOut (by kernel_rfl) (of_decide_eq_true (by kernel_rfl)) k0 hg lt0) (trodAll_cons_mk (Below.trod laidOut (by kernel_rfl) (of_decide_eq_true (by kernel_rfl)) k1 hg lt1) trodAll_mk0)), rfl, hg.frame _, fun h => by cases h⟩

theorem over : Rows.topTracesRow.holds Try.pinned (OpenSpec.ofChange Rows.topTracesSpec) :=
  OpenClaim.holds_of_wide 6 Try.f6 rfl rfl rfl rfl rfl rfl rfl ⟨rfl, rfl, rfl, rfl, rfl⟩ rfl rfl rfl rfl rfl (by kernel_rfl) Try.func6 (by kernel_rfl)
    (of_decide_eq_true (by kernel_rfl)) (by unfold Func.isWrapper; first | (rw [if_pos (by decide +kernel)]; kernel_rfl) | (rw [if_neg (by decide +kernel)]; exact ⟨rfl, rfl⟩))
    (fun os started H enc _ => lifted os started H enc)

/-- ████ THE STATEMENT ████ -/
theorem proved : Rows.TopTracesSaid :=
  over
#print axioms proved
end Go.Proofs.Ytfocmnjkoominaa.topTraces
