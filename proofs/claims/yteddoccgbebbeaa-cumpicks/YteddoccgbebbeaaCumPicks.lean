/-
  'Rows.CumPicksSaid' is proved: over all parts each index is picked as often as its weight says, in order. No condition.
-/
import Derived.Test.YteddoccgbebbeaaRows
import Derived.Test.YteddoccgbebbeaaShapes
import Derived.Test.YteddoccgbebbeaaCumPick
import Derived.Test.YteddoccgbebbeaaCumLaws
import Derived.Test.YteddoccgbebbeaaKeepSum
import Derived.Test.YteddoccgbebbeaaWeightsAny
import Derived.Test.YteddoccgbebbeaaEqualInts
import Derived.Test.YteddoccgbebbeaaLit
import Derived.Deep.DeepCutAuto
import Derived.WalkKit
import Derived.ProofKit
import Derived.OpenShut
import Derived.ShutString
import Derived.ChangeOld
import Derived.Below
namespace Go.Proofs.Yteddoccgbebbeaa.cumPicks
open Go.ChangeShapes Go.WideShapes Go.ChangeAt Go.RowKit
open Go.ChangeMaps (open_string shut_string)
set_option linter.unusedVariables false

theorem own : ownKnob Try.prog.godebug = none := by kernel_rfl
theorem laidOut : laidOutB Try.prog = true := by kernel_rfl

open Cum
theorem w0 : weightsE [2, 0, 3] = 0 := by decide
theorem p0 : place [2, 0, 3] 1 2 = 2 := by decide
theorem take_few {l : List Int} {n : Nat} (h : n ≤ 9) : (l.take n).take 39 = l.take n := by rw [List.take_take]; congr 1; omega

set_option maxRecDepth 100000 in
set_option maxHeartbeats 2000000 in
theorem walk (x0 : Sl Int) (w : World) (t0 : Tab w x0.a x0.len x0.cap 1 (x0.l.map iC)) (b0 : x0.len * 8 ≤ 140737488351232) (o0 : ∀ z ∈ x0.l, wfI z) :
    Calls Try.prog 5 #[.slice x0.a x0.len x0.cap] w fun e w' => e = .returned (.bool true) ∧ Below w.heap.size w w' := by
  obtain ⟨a, len, cap, L⟩ := x0
  have hm := t0.hmax
  have hle := t0.hle
  unfold maxLen at hm
  have HT := Lib.hid t0
  have HO := Lib.hid o0
  clear t0 b0 o0
  have hb0 : Below w.heap.size w (w.alloc (.cells #[.int .i64 2, .int .i64 0, .int .i64 3] 3)) := (Below.refl _ _).alloc (Nat.le_refl _) _
  have C0 := cumPick_ok (some ⟨w.heap.size, 0, none⟩) 3 3 [2, 0, 3] 2 _ (tab_lit w 3 1 3 ([(2 : Int), 0, 3].map iC) #[.int .i64 2, .int .i64 0, .int .i64 3] rfl rfl (rows_of iC_len _) (by decide) _ rfl) w0 (by decide) (by decide)
  rw [p0] at C0
  have C0 := Lib.hid C0
  go_enter Try.func5, Try.ntmps5
  go_wp2_with fail
  refine C0.out.mono ?_
  rintro e v1 ⟨rfl, hb1⟩
  have HB1 := Lib.hid (below_on hb0 hb1)
  clear C0 hb1 hb0
  obtain ⟨n, hn⟩ : ∃ n, min len 9 = n := ⟨_, rfl⟩
  have hn1 : n ≤ len := by omega
  have hn2 : n ≤ 9 := by omega
  have CW := weightsM_any a n cap (L.take n) 40 v1 (by have := HT.out.upto_ n hn1; rw [← List.map_take] at this; exact this.below HB1.out) (fun z hz => HO.out z (List.mem_of_mem_take hz)) (by decide) (by decide)
  rw [take_few hn2] at CW
  have CW := Lib.hid CW
  have rU := run_upto 22 3 1 Try.underlying22 elem_int4 size_int4 a len cap n (by omega)
  have HWL : Hid ((weightsM 40 (L.take n)).length = n + 1) := Lib.hid (by rw [weightsM_len, List.length_take]; have h := HT.out.hlen; rw [List.length_map] at h; have h' : L.length = len := h; omega)
  have HWE : Hid (weightsE (weightsM 40 (L.take n)) = 0) := Lib.hid (weightsM_ok (by decide) (by decide) (by rw [List.length_take]; omega))
  have HWB := Lib.hid (weightsM_bd (m := 40) (by decide) (l := L.take n))
  generalize weightsM 40 (L.take n) = WL at *
  go_upto_region 4 with fail
  go_cut [0] (fun s wx => ∃ q capq, s = .slice q (n + 1) capq ∧ Hid (Tab wx q (n + 1) capq 1 (WL.map iC)) ∧ Hid (Below w.heap.size w wx))
  case first =>
    by_cases h9 : len ≤ 9
    · obtain rfl : n = len := by omega
      clear hn
      go_wp2_with fail
      refine CW.out.mono ?_
      rintro e v2 ⟨s2, rfl, hO2, hb2⟩
      obtain ⟨q2, cap2, rfl, hT2⟩ := hO2.tab
      rw [List.length_map, HWL.out] at hT2 ⊢
      go_wp2_with fail
      go_meet
      case rel => exact ⟨q2, cap2, rfl, Lib.hid hT2, Lib.hid (below_on HB1.out hb2)⟩
    · obtain rfl : n = 9 := by omega
      have h9' : 9 < len := by omega
      clear hn h9
      go_wp2_with fail
      refine CW.out.mono ?_
      rintro e v2 ⟨s2, rfl, hO2, hb2⟩
      obtain ⟨q2, cap2, rfl, hT2⟩ := hO2.tab
      rw [List.length_map, HWL.out] at hT2 ⊢
      go_wp2_with fail
      go_meet
      case rel => exact ⟨q2, cap2, rfl, Lib.hid hT2, Lib.hid (below_on HB1.out hb2)⟩
  case rest =>
  obtain ⟨q, capq, rfl, HTQ, HBC⟩ := hcut
  obtain ⟨wc, hwc⟩ : ∃ w', w' = wc := ⟨_, rfl⟩
  subst hwc
  obtain ⟨nn, hnn⟩ : ∃ nn, n + 1 = nn := ⟨_, rfl⟩
  rw [hnn] at HTQ HWL ⊢
  have hnn10 : nn ≤ 10 := by omega
  have hnn1 : 1 ≤ nn := by omega
  clear CW rU hn hn1 hn2 hnn HT HO HB1 hm hle
  have hz : ∀ x ∈ WL, 0 ≤ x ∧ x ≤ 1000000000000 := fun x hx => by have := HWB.out x hx; omega
  have hz0 : ∀ x ∈ WL, 0 ≤ x := fun x hx => (hz x hx).1
  have HZ0 := Lib.hid hz0
  have HSM := Lib.hid (fun (W : World) (hW : Tab W q nn capq 1 (WL.map iC)) => keepSum_any q nn capq WL W hW (by omega) hz)
  have bA := sum_bd hz
  rw [HWL.out] at bA
  have bA1 := bA.1
  have bA2 : WL.sum ≤ 40000000000000 := by omega
  obtain ⟨PA, hPA⟩ := Int.eq_ofNat_of_zero_le bA1
  have HALL := picks_all hz0 hPA.symm
  rw [HWL.out] at HALL
  have HALL := Lib.hid HALL
  have HPK := Lib.hid (fun (p : Nat) (hp : (p : Int) < WL.sum) (W : World) (hT : Tab W q nn capq 1 (WL.map iC)) => cumPick_ok q nn capq WL p W hT HWE.out (by omega) hp)
  have HPL := Lib.hid (fun (p : Nat) (hp : (p : Int) < WL.sum) => place_lt (l := WL) (k := 1) (x := (p : Int)) (by omega) (by omega))
  rw [HWL.out] at HPL
  have HMO := Lib.hid (fun (x y : Nat) (hxy : x ≤ y) (hy : (y : Int) < WL.sum) => place_mono (l := WL) (k := 1) (x := (x : Int)) (y := (y : Int)) hz0 (by decide) (by omega) (by omega) (by omega))
  rw [hPA] at HSM HPK HPL HMO bA2
  clear hz bA bA1 hz0 hPA
  obtain ⟨i0, hi, hz0, hz1, hz2⟩ := info_parts info_int
  have HI := Lib.hid (And.intro hi (And.intro hz0 (And.intro hz1 hz2)))
  clear hi hz0 hz1 hz2
  go_wp2_with (at_make; refine wpList_make_full _ rfl _ _ 22 rfl wc.heap.size 3 i0 (.int .i64 0) 1 Try.underlying22 HI.out.1 HI.out.2.1 HI.out.2.2.1 _ _ _ _ nn rfl rfl rfl rfl (by rw [HI.out.2.2.2]; omega) (by unfold maxLen; omega) (Nat.le_refl _) ?_; intro w6 hO6 hg6)
  have hO7 : Own w6 wc.heap.size 3 1 (.slice (some ⟨wc.heap.size, 0, none⟩) nn nn) ((tally (fun p : Nat => place WL 1 (p : Int)) nn 0).map iC) := by
    rw [tally_zero]
    exact Own.full hO6 (made_ints nn)
  have HO7 := Lib.hid hO7
  have HB6 := Lib.hid ((Below.refl _ _).grown hg6 (Nat.le_refl _) (fun j hj => by cases hj))
  clear hO6 hg6 HI hO7
  refine (HSM.out _ (HTQ.out.below HB6.out)).mono ?_
  rintro e w7 ⟨rfl, rfl⟩
  go_wp2_with fail
  go_loopg [6, 32] PA (fun g s i wr => ∃ (p m : Nat), p + g = PA ∧ i = .int .i64 p ∧ s = .int .i64 m ∧ m ≤ 40 ∧ Hid (∀ x : Nat, p ≤ x → x < PA → m ≤ place WL 1 (x : Int)) ∧ Hid (Own wr wc.heap.size 3 1 (.slice (some ⟨wc.heap.size, 0, none⟩) nn nn) ((tally (fun p : Nat => place WL 1 (p : Int)) nn p).map iC)) ∧ Hid (Below wc.heap.size wc wr))
  case atStart => exact ⟨0, 0, by omega, rfl, rfl, by omega, Lib.hid (fun x _ _ => Nat.zero_le _), HO7, HB6⟩
  case round =>
    clear HO7 HB6
    obtain ⟨p, m, hp0, rfl, rfl, hm40, HMI, HS, HB⟩ := hrel
    have HJ := Lib.hid hp0
    have hp : p ≤ PA := by omega
    clear hp0
    by_cases hlt : p < PA
    · have C7 := Lib.hid (HPK.out p (by omega) wr (HTQ.out.below HB.out))
      have hI := HPL.out p (by omega)
      have hmI := HMI.out p (Nat.le_refl _) hlt
      have HM2 : Hid (∀ x : Nat, p + 1 ≤ x → x < PA → place WL 1 (p : Int) ≤ place WL 1 (x : Int)) := Lib.hid (fun x h1 h2 => HMO.out p x (by omega) (by omega))
      have HII : Hid (place WL 1 (p : Int) = (fun p : Nat => place WL 1 (p : Int)) p) := Lib.hid rfl
      generalize place WL 1 (p : Int) = I at *
      obtain ⟨y, hy⟩ : ∃ y, (tally (fun p : Nat => place WL 1 (p : Int)) nn p)[I]? = some y := ⟨_, List.getElem?_eq_getElem (by rw [tally_len]; exact hI)⟩
      have by_ := tally_mem (List.mem_of_getElem? hy)
      have y0 := by_.1
      have y1 : y ≤ 40000000000000 := by omega
      have HY := Lib.hid hy
      have hI40 : I ≤ 40 := by omega
      clear hy by_
      go_wp2_with fail
      refine C7.out.mono ?_
      rintro e w8 ⟨rfl, hb8⟩
      have hS8 := HS.out.below hb8
      obtain ⟨d1, e1, _, _⟩ := hS8.at1 (map_get HY.out)
      have hS9 := hS8.set1 (map_get HY.out) (.int .i64 (y + 1))
      rw [← show iC (y + 1) = [Value.int .i64 (y + 1)] from rfl, ← List.map_set, show (tally (fun p : Nat => place WL 1 (p : Int)) nn p).set I (y + 1) = tally (fun p : Nat => place WL 1 (p : Int)) nn (p + 1) from by have := HY.out; rw [HII.out] at this ⊢; exact tally_succ this] at hS9
      have HS9 := Lib.hid hS9
      have HB9 := Lib.hid ((HB.out.trans (hb8.mono HB.out.size)).setCell (p := ⟨wc.heap.size, I, none⟩) (Nat.le_refl _) (.int .i64 (y + 1)))
      clear hS8 hS9 hb8 C7
      have HbA := Lib.hid bA2
      clear bA2
      go_wp2_with fail
      go_roundg (PA - (p + 1))
      case measure => have := HJ.out; omega
      case rel => exact ⟨p + 1, I, by omega, by have h1 := HbA.out; have h2 : wrap64 ((p : Int) + 1) = ((p + 1 : Nat) : Int) := (by unfold wrap64; omega); first | rw [h2] | go_num, rfl, hI40, HM2, HS9, HB9⟩
    · obtain rfl : p = PA := by omega
      have hS := HS.out
      rw [HALL.out] at hS
      have CE := Lib.hid (equal_ints (some ⟨wc.heap.size, 0, none⟩) q nn nn nn capq WL WL wr hS.tab_of (HTQ.out.below HB.out) true (by simp))
      clear HS hS
      go_wp2_with fail
      refine CE.out.mono ?_
      rintro e w9 ⟨rfl, hb9⟩
      go_wp2
      go_ret
      exact ⟨rfl, below_on (below_on HBC.out HB.out) hb9⟩

set_option maxRecDepth 100000 in
theorem lifted (os : Os) (started : os.Started) (H : Type) (enc : TypeId × Value → H) :
    ReturnsInHanded {} Try.checked os 5 .any (Rows.cumPicksSpec.pre6 enc Try.prog Try.f5 Rows.cumPicksRow.domain false) (Rows.cumPicksSpec.post enc Try.prog Try.f5 false true false false) := by
  refine returnsInHanded_of_change_sized (C := Try.checked) own started (by kernel_rfl) Try.func5
    (ChangeSpec.witness6 (enc := enc) (C := Try.checked) false ⟨#[], #[.slice none 0 0], []⟩ 8 (by kernel_rfl) (by kernel_rfl) (by kernel_rfl) (by kernel_rfl)) ?_
  intro W base args ds gs before hval0 hW hcnd hsz0 _
  have hval : ∀ (j : Nat) t v, Try.f5.params[j]? = some t → args[j]? = some v → Value.okWide Try.prog W .any base t v := hval0
  have hW' := hW
  obtain ⟨p, q, hA0, hV, rfl, hfz, hnd⟩ := hW
  have hA : DataW.TrodAll enc Try.prog W 0 (fun _ => true) true Try.f5.params.toList args.toList ds p := hA0
  have hsz : (DataW.weightsEach Try.prog (Try.f5.params.toList ++ Rows.cumPicksSpec.plain.varTypes Try.prog) (ds ++ gs)).all (· ≤ reachBytes) = true := hsz0
  rw [Try.params5] at hA hval hsz
  obtain ⟨v0, vs0, d0, ds0, p0, q0, hargs, rfl, rfl, h0, r0⟩ := trodAll_cons hA
  obtain ⟨rfl, rfl, rfl⟩ := trodAll_nil r0
  obtain rfl : args = #[v0] := by cases args; simp_all
  obtain ⟨rfl, rfl⟩ := trodVars_none hV
  have k0 := h0
  have L0 := light_of hsz (j := 0) (t := 22) (d := d0) rfl rfl
  have lt0 : ∀ x ∈ p0, x.block < W.heap.size := by obtain ⟨m, hm⟩ := k0; exact DataW.trod_lt m _ _ _ hm
  obtain ⟨a0, len0, cap0, rfl⟩ := okWide_slice Try.underlying22 (hval 0 22 v0 rfl rfl)
  obtain ⟨n0, f0⟩ := trod_slice_of Try.underlying22 h0
  have F0 := And.intro f0 L0
  obtain ⟨x0, e0, t0, b0, o0⟩ := el_slice (w := W) (k := 1) iC wfI (by decide) Try.underlying22 (by kernel_rfl) (el_int Try.underlying3) (B := 8) (by kernel_rfl) _ _ _ F0.1 F0.2
  simp only [slC, List.cons.injEq, Value.slice.injEq, and_true] at e0
  obtain ⟨rfl, rfl, rfl⟩ := e0
  clear hA0 hval0
  refine (walk x0 W t0 b0 o0).mono fun e W' ⟨he, hg⟩ => ?_
  subst he
  exact ⟨_, rfl, _, _, _, [], _, [], hW', trodAll_mk1 (shut_bool Try.underlying4 _), (trodAll_cons_mk (Below.trod laidOut (by kernel_rfl) (of_decide_eq_true (by kernel_rfl)) k0 hg lt0) trodAll_mk0), rfl, hg.frame _, fun h => by cases h⟩

theorem over : Rows.cumPicksRow.holds Try.pinned (OpenSpec.ofChange Rows.cumPicksSpec) :=
  OpenClaim.holds_of_wide 5 Try.f5 rfl rfl rfl rfl rfl rfl rfl ⟨rfl, rfl, rfl, rfl, rfl⟩ rfl rfl rfl rfl rfl (by kernel_rfl) Try.func5 (by kernel_rfl)
    (of_decide_eq_true (by kernel_rfl)) (by unfold Func.isWrapper; first | (rw [if_pos (by decide +kernel)]; kernel_rfl) | (rw [if_neg (by decide +kernel)]; exact ⟨rfl, rfl⟩))
    (fun os started H enc _ => lifted os started H enc)

/-- ████ THE STATEMENT ████ -/
theorem proved : Rows.CumPicksSaid :=
  over
#print axioms proved
end Go.Proofs.Yteddoccgbebbeaa.cumPicks
