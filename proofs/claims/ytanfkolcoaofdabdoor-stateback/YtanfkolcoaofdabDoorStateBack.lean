/-
  'Rows.StateBackCardSaid' is proved: Read inverts Write in both directions. No condition beyond the card's own (the listed variables start as the program's text lays them).
-/
import Derived.Test.YtanfkolcoaofdabDoorRows
import Derived.Test.YtanfkolcoaofdabDoorShapes
import Derived.Test.YtanfkolcoaofdabDoorCardFrame
import Derived.Test.YtanfkolcoaofdabDoorTextBack
import Derived.Test.YtanfkolcoaofdabDoorStateWrite
import Derived.Test.YtanfkolcoaofdabDoorStateRead
import Derived.Test.YtanfkolcoaofdabDoorPairsLit
import Derived.Test.YtanfkolcoaofdabDoorEqualPairs
import Derived.Deep.DeepCutAuto
import Derived.WalkKit
import Derived.ProofKit
import Derived.Test.YtanfkolcoaofdabDoorCards
import Derived.Test.YtanfkolcoaofdabDoorTie
import Derived.Lay
import Derived.LaidOnce
import Derived.SevenTiedAt
import Derived.OpenShut
import Derived.ShutString
import Derived.ChangeOld
import Derived.Below
import Derived.Shelf.Vars
namespace Go.Proofs.YtanfkolcoaofdabDoor.stateBack
open Go.ChangeShapes Go.WideShapes Go.ChangeAt Go.RowKit
open Go.ChangeMaps (open_string shut_string)
set_option linter.unusedVariables false

theorem own : ownKnob Tryd.prog.godebug = none := by kernel_rfl
theorem laidOut : laidOutB Tryd.prog = true := by kernel_rfl

open StateMath
theorem back_lit : writeOf [(⟨#[97]⟩, ⟨#[49]⟩), (⟨#[98]⟩, ⟨#[50]⟩)] = (⟨#[97, 61, 49, 44, 98, 61, 50]⟩, 0) := by decide +kernel
theorem small_mem {R : List Pr} (h : tlen R ≤ 200) : ∀ p ∈ R, p.1.size ≤ 140737488351232 ∧ p.2.size ≤ 140737488351232 := by
  intro p hp
  have h1 : p.1.size + p.2.size ≤ sumT R := sum_mem _ _ (List.mem_map.2 ⟨p, hp, rfl⟩)
  unfold tlen at h
  split at h
  · have : R = [] := List.length_eq_zero_iff.1 (by assumption)
    subst this
    cases hp
  · omega
/-- what was read is written as it stood -/
theorem write_read {s : ByteArray} (h : (readP s).2 = 0) : writeOf (readP s).1 = (s, 0) ∧ tlen (readP s).1 ≤ 200 := by
  unfold readP at h ⊢
  split
  · rename_i h1; rw [if_pos h1] at h; cases h
  · rename_i h1
    rw [if_neg h1] at h
    split
    · rename_i h2
      have : s = ⟨#[]⟩ := StateMath.bytes_inj (by have := len_list s; rw [h2] at this; exact List.length_eq_zero_iff.1 this)
      subst this
      exact ⟨by decide +kernel, by decide +kernel⟩
    · rename_i h2
      rw [if_neg h2] at h
      cases hc : cutAll (partsOf s) with
      | none => rw [hc] at h; cases h
      | some R =>
        rw [hc] at h
        simp only at h ⊢
        split at h
        · rename_i h3
          have ht := text_read s R hc
          have hl : tlen R ≤ 200 := by rw [← textB_size, ht]; omega
          rw [if_pos h3]
          refine ⟨?_, hl⟩
          unfold writeOf
          rw [if_pos h3, if_neg (show ¬ 200 < tlen R by omega), ht]
        · rename_i h3; exact absurd h h3
theorem read_none {s : ByteArray} (h : (readP s).2 ≠ 0) : (readP s).1 = [] := by
  unfold readP at h ⊢
  split
  · rfl
  · rename_i h1
    rw [if_neg h1] at h
    split
    · rfl
    · rename_i h2
      rw [if_neg h2] at h
      cases hc : cutAll (partsOf s) with
      | none => rfl
      | some R =>
        rw [hc] at h
        simp only at h ⊢
        split at h
        · exact absurd rfl h
        · rename_i h3; rw [if_neg h3]

set_option maxRecDepth 100000 in
set_option maxHeartbeats 2000000 in
theorem walk (x0 : Sl (ByteArray × ByteArray)) (x1 : ByteArray) (w : World) (t0 : Tab w x0.a x0.len x0.cap 2 (x0.l.map ssC)) (b0 : x0.len * 32 ≤ 140737488351232) (o0 : ∀ z ∈ x0.l, wfSS z) (w1 : x1.size ≤ 140737488351232) (m : Int) (hm : w.cell? ⟨2, 0, none⟩ = some (.int .i64 m)) (hG : 2 < w.heap.size) :
    Calls Tryd.prog 6 #[.slice x0.a x0.len x0.cap, .string x1] w fun e w' => e = .returned (.bool true) ∧ Below w.heap.size w w' := by
  obtain ⟨a, len, cap, L⟩ := x0
  have HT := Lib.hid t0
  have HO := Lib.hid o0
  have HMX : Hid (∀ W, Below w.heap.size w W → W.cell? ⟨2, 0, none⟩ = some (.int .i64 m) ∧ 2 < W.heap.size) := Lib.hid (fun W hW => ⟨(hW.cell (p := ⟨2, 0, none⟩) hG).trans hm, Nat.lt_of_lt_of_le hG hW.size⟩)
  have hsm : x1.size ≤ maxLen := by unfold maxLen; omega
  clear t0 o0 b0 hm hG
  have C0 := write_any (some ⟨w.heap.size, 0, none⟩) 2 2 [(⟨#[97]⟩, ⟨#[49]⟩), (⟨#[98]⟩, ⟨#[50]⟩)] (w.alloc (.cells #[.string ⟨#[97]⟩, .string ⟨#[49]⟩, .string ⟨#[98]⟩, .string ⟨#[50]⟩] 45))
    (tab_lit _ _ 2 2 ([((⟨#[97]⟩ : ByteArray), (⟨#[49]⟩ : ByteArray)), ((⟨#[98]⟩ : ByteArray), (⟨#[50]⟩ : ByteArray))].map ssC) #[.string ⟨#[97]⟩, .string ⟨#[49]⟩, .string ⟨#[98]⟩, .string ⟨#[50]⟩] rfl rfl (rows_of ssC_len _) (by decide) _ rfl) (by intro p hp; simp at hp; rcases hp with rfl | rfl <;> decide)
  rw [back_lit] at C0
  have C0 := Lib.hid C0
  have hb0 : Below w.heap.size w (w.alloc (.cells #[.string ⟨#[97]⟩, .string ⟨#[49]⟩, .string ⟨#[98]⟩, .string ⟨#[50]⟩] 45)) := (Below.refl _ _).alloc (Nat.le_refl _) _
  have HB0 := Lib.hid hb0
  clear hb0
  go_enter Tryd.func6, Tryd.ntmps6
  go_wp2_with fail
  refine C0.out.mono ?_
  rintro e v1 ⟨rfl, hb1⟩
  have HB1 := Lib.hid (below_on HB0.out hb1)
  have HT1 := Lib.hid (HT.out.below HB1.out)
  obtain ⟨tw, cw, hw0⟩ : ∃ tw cw, writeOf L = (tw, cw) := ⟨_, _, rfl⟩
  have C1x := write_any a len cap L v1 HT1.out HO.out
  rw [hw0] at C1x
  have C1 := Lib.hid C1x
  have HW0 := Lib.hid hw0
  clear C1x hw0
  clear C0 hb1 HB0
  go_wp2_with fail
  refine C1.out.mono ?_
  rintro e v2 ⟨rfl, hb2⟩
  have HB2 := Lib.hid (below_on HB1.out hb2)
  have HT2 := Lib.hid (HT1.out.below hb2)
  clear C1 hb2 HB1 HT1
  go_upto_if 33 with fail
  go_cut [] (fun wx => Below v2.heap.size v2 wx)
  case first =>
    by_cases hc : check L = 0
    · by_cases hl : tlen L ≤ 200
      · have hw : writeOf L = (textB L, 0) := by unfold writeOf; rw [if_pos hc, if_neg (by omega)]
        rw [HW0.out, Prod.mk.injEq] at hw
        obtain ⟨hw1, rfl⟩ := hw
        have hms := HMX.out v2 HB2.out
        have hsz : (textB L).size ≤ maxLen := by rw [textB_size]; unfold maxLen; omega
        have D := read_any (textB L) m v2 hsz hms.1 hms.2
        rw [read_text L hc hl, ← hw1] at D
        have D := Lib.hid D
        clear hw1 hms hsz hc hl
        go_wp2_with fail
        refine D.out.mono ?_
        rintro e v4 ⟨s4, rfl, hO4, hb4⟩
        obtain ⟨a4, cap4, rfl, hT4⟩ := hO4.tab
        have l4 : (L.map ssC).length = len := HT2.out.hlen
        rw [l4] at hT4 ⊢
        have E := Lib.hid (equal_pairs a4 a len cap4 len cap L L v4 hT4 (HT2.out.below hb4) true (by simp))
        clear hO4 hT4 l4 D
        go_wp2_with fail
        refine E.out.mono ?_
        rintro e v5 ⟨rfl, hb5⟩
        go_wp2_with fail
        go_meet
        case rel => exact below_on hb4 hb5
      · have hw : writeOf L = (⟨#[]⟩, 2) := by unfold writeOf; rw [if_pos hc, if_pos (by omega)]
        rw [HW0.out, Prod.mk.injEq] at hw
        obtain ⟨_, rfl⟩ := hw
        clear hc hl
        go_wp2_with fail
        go_meet
        case rel => exact Below.refl _ _
    · have hw : writeOf L = (⟨#[]⟩, check L) := by unfold writeOf; rw [if_neg hc]
      rw [HW0.out, Prod.mk.injEq] at hw
      have t1 : ((cw : Int) == 0) = false := by rw [beq_eq_false_iff_ne, hw.2]; exact hc
      clear hw hc
      go_wp2_with fail
      go_meet
      case rel => exact Below.refl _ _
  case rest =>
  have HB3 := Lib.hid (below_on HB2.out hcut)
  have hms := HMX.out wc HB3.out
  have D := Lib.hid (read_any x1 m wc hsm hms.1 hms.2)
  clear hcut HB2 HT2 HMX hms HT HO HW0
  go_wp2_with fail
  refine D.out.mono ?_
  rintro e v4 ⟨s4, rfl, hO4, hb4⟩
  have HB4 := Lib.hid (below_on HB3.out hb4)
  clear D HB3 hb4
  by_cases hz : (readP x1).2 = 0
  · obtain ⟨h1, h2⟩ := write_read hz
    obtain ⟨a4, cap4, rfl, hT4⟩ := hO4.tab
    rw [List.length_map] at hT4 ⊢
    have D := write_any a4 _ cap4 (readP x1).1 v4 hT4 (small_mem h2)
    rw [h1] at D
    rw [hz]
    have D := Lib.hid D
    have t1 : (x1.toList == x1.toList) = true := by simp
    clear h1 h2 hO4 hT4 hz
    generalize (readP x1).1 = R at *
    go_wp2_with fail
    refine D.out.mono ?_
    rintro e v5 ⟨rfl, hb5⟩
    go_wp2
    go_ret
    exact ⟨rfl, below_on HB4.out hb5⟩
  · have h1 := read_none hz
    rw [h1] at hO4
    obtain ⟨a4, cap4, rfl, hT4⟩ := hO4.tab
    have t1 : (((readP x1).2 : Int) != 0) = true := by rw [bne_iff_ne]; exact hz
    clear hz h1 hO4 hT4
    generalize (readP x1).2 = c at *
    go_wp2
    go_ret
    exact ⟨rfl, HB4.out⟩

set_option maxRecDepth 100000 in
theorem lifted (os : Os) (started : os.Started) (H : Type) (enc : TypeId × Value → H) :
    ReturnsInHanded {} Tryd.checked os 6 .any (fun w args => (Rows.stateBackSpec.pre enc Tryd.prog Tryd.f6 Rows.stateBackRow.domain false w args ∧ laidMetH Tryd.prog Rows.stateBackRow.laid w) ∧ sizedMet enc Tryd.prog Tryd.f6 (OpenSpec.ofChange Rows.stateBackSpec) false w args) (Rows.stateBackSpec.post enc Tryd.prog Tryd.f6 false true false false) := by
  refine handed_and_shaped (C := Tryd.checked) (X := fun w _ => laidMetH Tryd.prog Rows.stateBackRow.laid w) (fun _ _ _ hh h => h.of_heap hh) own started (by kernel_rfl) Tryd.func6
    (ChangeSpec.witness_shaped (enc := enc) (C := Tryd.checked) (os := os) (X := fun w _ => laidMetH Tryd.prog Rows.stateBackRow.laid w) false (World.laidAll Tryd.prog os Rows.stateBackRow.laid) #[.slice none 0 0, .string ByteArray.empty] 8 (World.laidAll_os _ _ _)
      (World.shaped_of_ZipB (by kernel_rfl) (by kernel_rfl)) (by kernel_rfl) (by kernel_rfl) (by kernel_rfl)
      (by rw [MakeChecks.laidMetH_plain _ _ _ (by kernel_rfl)]; exact laidMet_laidAll _ (by kernel_rfl) (by kernel_rfl))) ?_
  intro W base args ds gs before hval0 hW hcnd hsz0 hL hsh _
  have hval : ∀ (j : Nat) t v, Tryd.f6.params[j]? = some t → args[j]? = some v → Value.okWide Tryd.prog W .any base t v := hval0
  have hW' := hW
  obtain ⟨p, q, hA0, hV, rfl, hfz, hnd⟩ := hW
  have hA : DataW.TrodAll enc Tryd.prog W 0 (fun _ => true) true Tryd.f6.params.toList args.toList ds p := hA0
  have hsz : (DataW.weightsEach Tryd.prog (Tryd.f6.params.toList ++ Rows.stateBackSpec.plain.varTypes Tryd.prog) (ds ++ gs)).all (· ≤ reachBytes) = true := hsz0
  rw [Tryd.params6] at hA hval hsz
  obtain ⟨v0, vs0, d0, ds0, p0, q0, hargs, rfl, rfl, h0, r0⟩ := trodAll_cons hA
  obtain ⟨v1, vs1, d1, ds1, p1, q1, rfl, rfl, rfl, h1, r1⟩ := trodAll_cons r0
  obtain ⟨rfl, rfl, rfl⟩ := trodAll_nil r1
  obtain rfl : args = #[v0, v1] := by cases args; simp_all
  obtain ⟨rfl, rfl⟩ := trodVars_none hV
  have k0 := h0
  have L0 := light_of hsz (j := 0) (t := 30) (d := d0) rfl rfl
  have lt0 : ∀ x ∈ p0, x.block < W.heap.size := by obtain ⟨m, hm⟩ := k0; exact DataW.trod_lt m _ _ _ hm
  obtain ⟨a0, len0, cap0, rfl⟩ := okWide_slice Tryd.underlying30 (hval 0 30 v0 rfl rfl)
  obtain ⟨n0, f0⟩ := trod_slice_of Tryd.underlying30 h0
  have F0 := And.intro f0 L0
  obtain ⟨x0, e0, t0, b0, o0⟩ := el_slice (w := W) (k := 2) ssC wfSS (by decide) Tryd.underlying30 (by kernel_rfl) (el_ss Tryd.underlying45 (by kernel_rfl) (by kernel_rfl) Tryd.underlying9 Tryd.underlying9) (B := 32) (by kernel_rfl) _ _ _ F0.1 F0.2
  simp only [slC, List.cons.injEq, Value.slice.injEq, and_true] at e0
  obtain ⟨rfl, rfl, rfl⟩ := e0
  have k1 := h1
  have L1 := light_of hsz (j := 1) (t := 9) (d := d1) rfl rfl
  have lt1 : ∀ x ∈ p1, x.block < W.heap.size := by obtain ⟨m, hm⟩ := k1; exact DataW.trod_lt m _ _ _ hm
  obtain ⟨x1, rfl, rfl, rfl, _⟩ := open_string Tryd.underlying9 (hval 1 9 v1 rfl rfl) h1
  have w1 : x1.size ≤ 140737488351232 := L1 x1.size (by simp [DataW.weights])
  clear hA0 hval0
  obtain ⟨m, hm⟩ := cell_of_shapedOpen_int (g := 2) (zero := #[.int .i64 0]) hsh (of_decide_eq_true (by kernel_rfl)) (by kernel_rfl) (by kernel_rfl) (by kernel_rfl) (by kernel_rfl) Tryd.underlying3
  have hG : 2 < W.heap.size := World.block_lt_of_cell? _ _ hm
  refine (walk x0 x1 W t0 b0 o0 w1 m hm hG).mono fun e W' ⟨he, hg⟩ => ?_
  subst he
  exact ⟨_, rfl, _, _, _, [], _, [], hW', trodAll_mk1 (shut_bool Tryd.underlying4 _), (trodAll_cons_mk (Below.trod laidOut (by kernel_rfl) (of_decide_eq_true (by kernel_rfl)) k0 hg lt0) (trodAll_cons_mk (Below.trod laidOut (by kernel_rfl) (of_decide_eq_true (by kernel_rfl)) k1 hg lt1) trodAll_mk0)), rfl, hg.frame _, fun h => by cases h⟩

theorem over : Rows.stateBackRow.holds Tryd.pinned (OpenSpec.ofChange Rows.stateBackSpec) :=
  OpenClaim.holds_of_wide 6 Tryd.f6 rfl rfl rfl rfl rfl rfl rfl ⟨rfl, rfl, rfl, rfl, rfl⟩ rfl rfl rfl rfl rfl (by kernel_rfl) Tryd.func6 (by kernel_rfl)
    (of_decide_eq_true (by kernel_rfl)) (by unfold Func.isWrapper; first | (rw [if_pos (by decide +kernel)]; kernel_rfl) | (rw [if_neg (by decide +kernel)]; exact ⟨rfl, rfl⟩))
    (fun os started H enc _ => lifted os started H enc)

/-- ████ THE CARD ████ -/
theorem proved : Rows.StateBackCardSaid :=
  Claim7.holds_tied_plain_at .later [] _ _ _ _ over (fun _ h => by cases h) (by kernel_rfl) (fun _ h => by cases h) stateBack_row_tie rfl ⟨rfl, rfl⟩ (by kernel_rfl) rfl
    (fun f fn hf hfn => by
      obtain rfl : f = 6 := Option.some.inj ((show Tryd.prog.funcNamed "cullender/culkeep.StateBack" = some 6 by kernel_rfl).symm.trans hf) |>.symm
      obtain rfl : fn = Tryd.f6 := (Option.some.inj (Tryd.func6.symm.trans hfn)).symm
      exact ⟨by kernel_rfl, fun j t ht => by
        rw [Tryd.params6] at ht
        have hm : t ∈ [30, 9] := by have := Array.mem_of_getElem? ht; simp at this ⊢; first | omega | exact this | (rcases this with h | h <;> simp [h]) | (rcases this with h | h | h <;> simp [h])
        have hall : ([30, 9].all fun u => !Tryd.prog.wantsStandIn u) = true := by kernel_rfl
        exact (show Tryd.prog.wantsStandIn t = false by simpa using List.all_eq_true.1 hall t hm)⟩)
    (by kernel_rfl)
#print axioms proved
end Go.Proofs.YtanfkolcoaofdabDoor.stateBack
