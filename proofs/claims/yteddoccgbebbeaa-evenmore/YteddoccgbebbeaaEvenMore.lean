/-
  'Rows.EvenMoreSaid' is proved: a greater weight is picked at most one time less, and weight 0 never. No condition.
-/
import Derived.Test.YteddoccgbebbeaaRows
import Derived.Test.YteddoccgbebbeaaShapes
import Derived.Test.YteddoccgbebbeaaCumEven
import Derived.Test.YteddoccgbebbeaaKeepSum
import Derived.Test.YteddoccgbebbeaaWeightsAny
import Derived.Test.YteddoccgbebbeaaEqualInts
import Derived.Test.YteddoccgbebbeaaLit
import Derived.Deep.DeepCutAuto
import Derived.BigQuiet
import Derived.WalkKit
import Derived.ProofKit
import Derived.OpenShut
import Derived.ShutString
import Derived.ChangeOld
import Derived.Below
namespace Go.Proofs.Yteddoccgbebbeaa.evenMore
open Go.ChangeShapes Go.WideShapes Go.ChangeAt Go.RowKit
open Go.ChangeMaps (open_string shut_string)
set_option linter.unusedVariables false

theorem own : ownKnob Try.prog.godebug = none := by kernel_rfl
theorem laidOut : laidOutB Try.prog = true := by kernel_rfl

open Cum
theorem we : weightsE [1, 3] = 0 := by decide
theorem pe : evenL [1, 3] 2 0 = [1, 1] := by decide

set_option maxRecDepth 100000 in
set_option maxHeartbeats 2000000 in
theorem walk (x0 : Sl Int) (x1 : Int) (x2 : Int) (w : World) (t0 : Tab w x0.a x0.len x0.cap 1 (x0.l.map iC)) (b0 : x0.len * 8 ≤ 140737488351232) (o0 : ∀ z ∈ x0.l, wfI z) (w1 : (Lit.int .i64 x1).wf = true) (w2 : (Lit.int .i64 x2).wf = true) :
    Calls Try.prog 12 #[.slice x0.a x0.len x0.cap, .int .i64 x1, .int .i64 x2] w fun e w' => e = .returned (.bool true) ∧ Below w.heap.size w w' := by
  obtain ⟨a, len, cap, L⟩ := x0
  have hm := t0.hmax
  have hle := t0.hle
  unfold maxLen at hm
  have b1 := wf_i64 w1
  have b2 := wf_i64 w2
  have hb0 : Below w.heap.size w (w.alloc (.cells #[.int .i64 1, .int .i64 3] 3)) := (Below.refl _ _).alloc (Nat.le_refl _) _
  have C0 := even_ok (some ⟨w.heap.size, 0, none⟩) 2 2 [1, 3] 2 0 _ (tab_lit w 3 1 2 ([(1 : Int), 3].map iC) #[.int .i64 1, .int .i64 3] rfl rfl (rows_of iC_len _) (by decide) _ rfl) we (by decide) (by decide) (by decide) (by decide)
  rw [pe] at C0
  have C0 := Lib.hid C0
  have CW := Lib.hid (fun W (hb : Below w.heap.size w W) => weightsM_any a len cap L 100 W (t0.below hb) o0 (by decide) (by decide))
  have hwl : (weightsM 100 (L.take 39)).length ≤ 40 := by rw [weightsM_len, List.length_take]; omega
  have HWE : Hid (weightsE (weightsM 100 (L.take 39)) = 0) := Lib.hid (weightsM_ok (by decide) (by decide) (by rw [List.length_take]; omega))
  have hz : ∀ x ∈ weightsM 100 (L.take 39), 0 ≤ x ∧ x ≤ 1000000000000 := fun x hx => by have := weightsM_bd (m := 100) (by decide) x hx; omega
  have hps := weightsM_pos (m := 100) (by decide) (by decide) (l := L.take 39)
  clear t0 o0
  generalize weightsM 100 (L.take 39) = WL at *
  obtain ⟨nn, hnn⟩ : ∃ nn, WL.length = nn := ⟨_, rfl⟩
  have hz0 : ∀ x ∈ WL, 0 ≤ x := fun x hx => (hz x hx).1
  have bA := sum_bd hz
  have bA2 : WL.sum ≤ 40000000000000 := by omega
  have HZ := Lib.hid hz
  have HZ0 := Lib.hid hz0
  have HNN := Lib.hid hnn
  rw [hnn] at hwl
  clear hz hz0 bA hnn
  have d1 := withI_bd x1 100 (by omega)
  have HW1 := Lib.hid (fun W => within_int x1 100 W b1 (by omega) (by omega))
  generalize withI x1 100 = K0 at *
  obtain ⟨k, hk⟩ := Int.eq_ofNat_of_zero_le (show 0 ≤ 1 + K0 by omega)
  have d2 := withI_bd x2 WL.sum hps
  have HW2 := Lib.hid (fun W => within_int x2 WL.sum W b2 (by omega) (by omega))
  generalize withI x2 WL.sum = P at *
  have hp0 := d2.1
  have hp1 := d2.2
  have hk1 : 1 ≤ k := by omega
  have hk2 : k ≤ 100 := by omega
  have hK0 := d1.1
  have hK1 := d1.2
  have HEV := Lib.hid (fun (q : Option Addr) (c : Nat) (W : World) (hT : Tab W q nn c 1 (WL.map iC)) => even_ok q nn c WL k P W hT HWE.out hk1 (by omega) hp0 hp1)
  have HEL := Lib.hid (evenL_len WL k P)
  have HEB : Hid (∀ y ∈ evenL WL k P, 0 ≤ y ∧ y ≤ (k : Int)) := Lib.hid (fun y hy => tally_mem hy)
  have HMO := Lib.hid (fun (i j : Nat) (x y m n : Int) (hx : WL[i]? = some x) (hy : WL[j]? = some y) (hm : (evenL WL k P)[i]? = some m) (hn : (evenL WL k P)[j]? = some n) (hxy : y < x) => even_more HZ0.out hp0 hp1 hx hy hm hn hxy)
  have HEZ := Lib.hid (fun (i : Nat) (hx : WL[i]? = some 0) => evenL_zero (k := k) HZ0.out hp0 hp1 hx)
  rw [HNN.out] at HEL
  generalize evenL WL k P = M at *
  have HSM := Lib.hid (fun (q : Option Addr) (c : Nat) (W : World) (hW : Tab W q nn c 1 (WL.map iC)) => keepSum_any q nn c WL W hW (by omega) HZ.out)
  generalize WL.sum = A at *
  have HK := Lib.hid hk
  clear d1 d2 hk b1 b2 w1 w2
  go_enter Try.func12, Try.ntmps12
  go_wp2_with fail
  refine C0.out.mono ?_
  rintro e v1 ⟨s1, rfl, hO1, hb1⟩
  have hb1' := below_on hb0 hb1
  obtain ⟨q1, cap1, rfl, hT1⟩ := hO1.tab
  have E1 := Lib.hid (equal_ints q1 (some ⟨v1.heap.size, 0, none⟩) 2 cap1 2 2 [1, 1] [1, 1] (v1.alloc (.cells #[.int .i64 1, .int .i64 1] 3)) (hT1.below ((Below.refl _ _).alloc (Nat.le_refl _) _)) (tab_lit v1 3 1 2 ([(1 : Int), 1].map iC) #[.int .i64 1, .int .i64 1] rfl rfl (rows_of iC_len _) (by decide) _ rfl) true (by simp))
  have HB1 := Lib.hid (hb1'.alloc hb1'.size (.cells #[.int .i64 1, .int .i64 1] 3))
  clear hb0 hb1 hb1' hO1 hT1 C0
  go_wp2_with fail
  refine E1.out.mono ?_
  rintro e v2 ⟨rfl, hb2⟩
  have HB2 := Lib.hid (below_on HB1.out hb2)
  clear HB1 hb2 E1
  go_wp2_with fail
  refine (CW.out _ HB2.out).mono ?_
  rintro e v3 ⟨s3, rfl, hO3, hb3⟩
  obtain ⟨q3, cap3, rfl, hT3⟩ := hO3.tab
  rw [List.length_map, HNN.out] at hT3 ⊢
  have HT3 := Lib.hid hT3
  have HB3 := Lib.hid (below_on HB2.out hb3)
  clear HB2 hb3 hO3 hT3 CW
  go_wp2_with fail
  refine (HW1.out _).mono ?_
  rintro e w4 ⟨rfl, rfl⟩
  go_upto_region 6 with fail
  rw [HK.out]
  go_wp2_with fail
  refine (HSM.out _ _ _ HT3.out).mono ?_
  rintro e w5 ⟨rfl, hw5⟩
  rw [hw5]
  clear hw5
  go_wp2_with fail
  refine (HW2.out _).mono ?_
  rintro e w6 ⟨rfl, rfl⟩
  go_wp2_with fail
  refine (HEV.out _ _ _ HT3.out).mono ?_
  rintro e v4 ⟨s4, rfl, hO4, hb4⟩
  obtain ⟨q4, cap4, rfl, hT4⟩ := hO4.tab
  rw [List.length_map, HEL.out] at hT4 ⊢
  have HT4 := Lib.hid hT4
  have HTL := Lib.hid (HT3.out.below hb4)
  have HB4 := Lib.hid (below_on HB3.out hb4)
  have t1 : ((nn : Int) != (nn : Int)) = false := by simp
  clear hO4 hT4 hb4 HT3 HB3 HEV HW1 HW2 HSM
  go_wp2_with fail
  clear t1
  go_loopg [52] nn (fun g i wr => ∃ c : Nat, c + g = nn ∧ i = .int .i64 c ∧ Hid (Below v4.heap.size v4 wr))
  case atStart => exact ⟨0, by omega, rfl, Lib.hid (Below.refl _ _)⟩
  case round =>
    obtain ⟨c, hc0, rfl, HW⟩ := hrel
    have HJ := Lib.hid hc0
    have hc : c ≤ nn := by omega
    clear hc0
    obtain ⟨wo, hwo⟩ : ∃ wo, wo = wr := ⟨_, rfl⟩
    subst hwo
    by_cases hlt : c < nn
    · obtain ⟨x, hx⟩ : ∃ x, WL[c]? = some x := ⟨_, List.getElem?_eq_getElem (by rw [HNN.out]; exact hlt)⟩
      obtain ⟨m, hmm⟩ : ∃ x, M[c]? = some x := ⟨_, List.getElem?_eq_getElem (by rw [HEL.out]; exact hlt)⟩
      have bm := HEB.out m (List.mem_of_getElem? hmm)
      have bx := HZ.out x (List.mem_of_getElem? hx)
      have HX := Lib.hid (And.intro hx hmm)
      have HZX : Hid (x = 0 → m = 0) := Lib.hid (fun e => by subst e; have := HEZ.out c hx; rw [hmm, Option.some.injEq] at this; exact this)
      have m0 := bm.1
      have m1 : m ≤ 100 := by omega
      clear hx hmm bm
      go_wp2_with fail
      go_loopg [57] nn (fun g i wr => ∃ d : Nat, d + g = nn ∧ i = .int .i64 d ∧ Hid (Below v4.heap.size v4 wr))
      case atStart => exact ⟨0, by omega, rfl, HW⟩
      case round =>
        clear HW
        obtain ⟨d, hd0, rfl, HW⟩ := hrel
        have HD := Lib.hid hd0
        have hd : d ≤ nn := by omega
        clear hd0
        by_cases hdl : d < nn
        · obtain ⟨y, hy⟩ : ∃ x, WL[d]? = some x := ⟨_, List.getElem?_eq_getElem (by rw [HNN.out]; exact hdl)⟩
          obtain ⟨n, hn⟩ : ∃ x, M[d]? = some x := ⟨_, List.getElem?_eq_getElem (by rw [HEL.out]; exact hdl)⟩
          have bn := HEB.out n (List.mem_of_getElem? hn)
          have n0 := bn.1
          have hy0 := (HZ.out y (List.mem_of_getElem? hy)).1
          have n1 : n ≤ 100 := by omega
          have hmo := HMO.out c d x y m n HX.out.1 hy HX.out.2 hn
          obtain ⟨e1, o1, ha1, hbs1, f1⟩ := HTL.out.one HW.out (map_get HX.out.1)
          obtain ⟨e2, o2, ha2, hbs2, f2⟩ := HTL.out.one HW.out (map_get hy)
          obtain ⟨e3, o3, ha3, hbs3, f3⟩ := HT4.out.one HW.out (map_get HX.out.2)
          obtain ⟨e4, o4, ha4, hbs4, f4⟩ := HT4.out.one HW.out (map_get hn)
          subst ha1 ha3
          simp only [Option.some.injEq, Addr.mk.injEq, and_true] at ha2 ha4
          obtain ⟨rfl, rfl⟩ := ha2
          obtain ⟨rfl, rfl⟩ := ha4
          have hzx := HZX.out
          clear hy hn bn
          by_cases g1 : y < x
          · have g2 := hmo g1
            have g3 : (x == 0) = false := by rw [beq_eq_false_iff_ne]; have := bx.1; omega
            have s1 : decide (y < x) = true := decide_eq_true g1
            have s2 : decide (m < n - 1) = false := decide_eq_false (by omega)
            clear hmo hzx
            go_wp2_with fail
            go_quiet (fail)
            go_wp2_with fail
            go_roundg (nn - (d + 1))
            case measure => have := HD.out; omega
            case rel => exact ⟨d + 1, by omega, by go_num, Lib.hid (below_drewN HW.out _)⟩
          · have s1 : decide (y < x) = false := decide_eq_false g1
            clear hmo
            by_cases g4 : x = 0
            · have g5 := hzx g4
              subst g4 g5
              have s3 : ((0 : Int) == 0) = true := by simp
              have s4 : ((0 : Int) != 0) = false := by simp
              clear hzx
              go_wp2_with fail
              go_quiet (fail)
              go_wp2_with fail
              go_roundg (nn - (d + 1))
              case measure => have := HD.out; omega
              case rel => exact ⟨d + 1, by omega, by go_num, Lib.hid (below_drewN HW.out _)⟩
            · have g3 : (x == 0) = false := by rw [beq_eq_false_iff_ne]; exact g4
              clear hzx g4
              go_wp2_with fail
              go_quiet (fail)
              go_wp2_with fail
              go_roundg (nn - (d + 1))
              case measure => have := HD.out; omega
              case rel => exact ⟨d + 1, by omega, by go_num, Lib.hid (below_drewN HW.out _)⟩
        · obtain rfl : d = nn := by omega
          go_wp2_with fail
          go_roundg (d - (c + 1))
          case measure => have := HJ.out; omega
          case rel => exact ⟨c + 1, by omega, by go_num, HW⟩
    · obtain rfl : c = nn := by omega
      go_wp2
      go_ret
      exact ⟨rfl, below_on HB4.out HW.out⟩

set_option maxRecDepth 100000 in
theorem lifted (os : Os) (started : os.Started) (H : Type) (enc : TypeId × Value → H) :
    ReturnsInHanded {} Try.checked os 12 .any (Rows.evenMoreSpec.pre6 enc Try.prog Try.f12 Rows.evenMoreRow.domain false) (Rows.evenMoreSpec.post enc Try.prog Try.f12 false true false false) := by
  refine returnsInHanded_of_change_sized (C := Try.checked) own started (by kernel_rfl) Try.func12
    (ChangeSpec.witness6 (enc := enc) (C := Try.checked) false ⟨#[], #[.slice none 0 0, .int .i64 0, .int .i64 0], []⟩ 8 (by kernel_rfl) (by kernel_rfl) (by kernel_rfl) (by kernel_rfl)) ?_
  intro W base args ds gs before hval0 hW hcnd hsz0 _
  have hval : ∀ (j : Nat) t v, Try.f12.params[j]? = some t → args[j]? = some v → Value.okWide Try.prog W .any base t v := hval0
  have hW' := hW
  obtain ⟨p, q, hA0, hV, rfl, hfz, hnd⟩ := hW
  have hA : DataW.TrodAll enc Try.prog W 0 (fun _ => true) true Try.f12.params.toList args.toList ds p := hA0
  have hsz : (DataW.weightsEach Try.prog (Try.f12.params.toList ++ Rows.evenMoreSpec.plain.varTypes Try.prog) (ds ++ gs)).all (· ≤ reachBytes) = true := hsz0
  rw [Try.params12] at hA hval hsz
  obtain ⟨v0, vs0, d0, ds0, p0, q0, hargs, rfl, rfl, h0, r0⟩ := trodAll_cons hA
  obtain ⟨v1, vs1, d1, ds1, p1, q1, rfl, rfl, rfl, h1, r1⟩ := trodAll_cons r0
  obtain ⟨v2, vs2, d2, ds2, p2, q2, rfl, rfl, rfl, h2, r2⟩ := trodAll_cons r1
  obtain ⟨rfl, rfl, rfl⟩ := trodAll_nil r2
  obtain rfl : args = #[v0, v1, v2] := by cases args; simp_all
  obtain ⟨rfl, rfl⟩ := trodVars_none hV
  have k0 := h0
  have L0 := light_of hsz (j := 0) (t := 22) (d := d0) rfl rfl
  have lt0 : ∀ x ∈ p0, x.block < W.heap.size := by obtain ⟨m, hm⟩ := k0; exact DataW.trod_lt m _ _ _ hm
  obtain ⟨a0, len0, cap0, rfl⟩ := okWide_slice Try.underlying22 (hval 0 22 v0 rfl rfl)
  obtain ⟨n0, f0⟩ := trod_slice_of Try.underlying22 h0
  have F0 := And.intro f0 L0
  obtain ⟨x0, e0, t0, b0, o0⟩ := el_slice (w := W) (k := 1) iC wfI (by decide) Try.underlying22 (by kernel_rfl) (el_int Try.underlying3) (B := 8) (by kernel_rfl) _ _ _ F0.1 F0.2
  simp only [slC, List.cons.injEq, Value.slice.injEq, and_true] at e0
  obtain ⟨rfl, rfl, rfl⟩ := e0
  have k1 := h1
  have L1 := light_of hsz (j := 1) (t := 3) (d := d1) rfl rfl
  have lt1 : ∀ x ∈ p1, x.block < W.heap.size := by obtain ⟨m, hm⟩ := k1; exact DataW.trod_lt m _ _ _ hm
  obtain ⟨x1, rfl, rfl, rfl, w1⟩ := open_int Try.underlying3 (hval 1 3 v1 rfl rfl) h1
  have k2 := h2
  have L2 := light_of hsz (j := 2) (t := 3) (d := d2) rfl rfl
  have lt2 : ∀ x ∈ p2, x.block < W.heap.size := by obtain ⟨m, hm⟩ := k2; exact DataW.trod_lt m _ _ _ hm
  obtain ⟨x2, rfl, rfl, rfl, w2⟩ := open_int Try.underlying3 (hval 2 3 v2 rfl rfl) h2
  clear hA0 hval0
  refine (walk x0 x1 x2 W t0 b0 o0 w1 w2).mono fun e W' ⟨he, hg⟩ => ?_
  subst he
  exact ⟨_, rfl, _, _, _, [], _, [], hW', trodAll_mk1 (shut_bool Try.underlying4 _), (trodAll_cons_mk (Below.trod laidOut (by kernel_rfl) (of_decide_eq_true (by kernel_rfl)) k0 hg lt0) (trodAll_cons_mk (Below.trod laidOut (by kernel_rfl) (of_decide_eq_true (by kernel_rfl)) k1 hg lt1) (trodAll_cons_mk (Below.trod laidOut (by kernel_rfl) (of_decide_eq_true (by kernel_rfl)) k2 hg lt2) trodAll_mk0))), rfl, hg.frame _, fun h => by cases h⟩

theorem over : Rows.evenMoreRow.holds Try.pinned (OpenSpec.ofChange Rows.evenMoreSpec) :=
  OpenClaim.holds_of_wide 12 Try.f12 rfl rfl rfl rfl rfl rfl rfl ⟨rfl, rfl, rfl, rfl, rfl⟩ rfl rfl rfl rfl rfl (by kernel_rfl) Try.func12 (by kernel_rfl)
    (of_decide_eq_true (by kernel_rfl)) (by unfold Func.isWrapper; first | (rw [if_pos (by decide +kernel)]; kernel_rfl) | (rw [if_neg (by decide +kernel)]; exact ⟨rfl, rfl⟩))
    (fun os started H enc _ => lifted os started H enc)

/-- ████ THE STATEMENT ████ -/
theorem proved : Rows.EvenMoreSaid :=
  over
#print axioms proved
end Go.Proofs.Yteddoccgbebbeaa.evenMore
