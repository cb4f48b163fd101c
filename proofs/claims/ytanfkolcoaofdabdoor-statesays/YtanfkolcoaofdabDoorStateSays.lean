/-
  'Rows.StateSaysCardSaid' is proved: Key, Check, Write and Read answer what the document says, for all arguments. No condition beyond the card's own (the listed variables start as the program's text lays them).
-/
import Derived.Test.YtanfkolcoaofdabDoorRows
import Derived.Test.YtanfkolcoaofdabDoorShapes
import Derived.Test.YtanfkolcoaofdabDoorCardFrame
import Derived.Test.YtanfkolcoaofdabDoorReadSame
import Derived.Test.YtanfkolcoaofdabDoorStateWrite
import Derived.Test.YtanfkolcoaofdabDoorStateRead
import Derived.Test.YtanfkolcoaofdabDoorPairsLit
import Derived.Test.YtanfkolcoaofdabDoorEqualPairs
import Derived.Test.YtanfkolcoaofdabDoorRefRead
import Derived.Test.YtanfkolcoaofdabDoorRefText
import Derived.Test.YtanfkolcoaofdabDoorRefState
import Derived.WalkKit
import Derived.ProofKit
import Derived.Test.YtanfkolcoaofdabDoorCards
import Derived.Test.YtanfkolcoaofdabDoorTie
import Derived.Lay
import Derived.LaidOnce
import Derived.SevenTiedAt
import Derived.OpenShut
import Derived.ShutString
import Derived.ChangeOld
import Derived.Below
import Derived.Shelf.Vars
namespace Go.Proofs.YtanfkolcoaofdabDoor.stateSays
open Go.ChangeShapes Go.WideShapes Go.ChangeAt Go.RowKit
open Go.ChangeMaps (open_string shut_string)
set_option linter.unusedVariables false

theorem own : ownKnob Tryd.prog.godebug = none := by kernel_rfl
theorem laidOut : laidOutB Tryd.prog = true := by kernel_rfl

open StateMath
theorem says_empty : check [(ByteArray.empty, ByteArray.empty)] = 3 := by decide +kernel
theorem says_a : keyOk (⟨#[97]⟩ : ByteArray).data.toList = true := by decide +kernel

set_option maxRecDepth 100000 in
set_option maxHeartbeats 2000000 in
theorem walk (x0 : Sl (ByteArray × ByteArray)) (x1 : ByteArray) (w : World) (t0 : Tab w x0.a x0.len x0.cap 2 (x0.l.map ssC)) (b0 : x0.len * 32 ≤ 140737488351232) (o0 : ∀ z ∈ x0.l, wfSS z) (w1 : x1.size ≤ 140737488351232) (m : Int) (hm : w.cell? ⟨2, 0, none⟩ = some (.int .i64 m)) (hG : 2 < w.heap.size) :
    Calls Tryd.prog 4 #[.slice x0.a x0.len x0.cap, .string x1] w fun e w' => e = .returned (.bool true) ∧ Below w.heap.size w w' := by
  obtain ⟨a, len, cap, L⟩ := x0
  have HT := Lib.hid t0
  have HO := Lib.hid o0
  have HO2 : Hid (∀ p ∈ L, p.1.size ≤ maxLen ∧ p.2.size ≤ maxLen) := Lib.hid (fun p hp => by have := o0 p hp; unfold wfSS at this; unfold maxLen; omega)
  have HMX : Hid (∀ W, Below w.heap.size w W → W.cell? ⟨2, 0, none⟩ = some (.int .i64 m) ∧ 2 < W.heap.size) := Lib.hid (fun W hW => ⟨(hW.cell (p := ⟨2, 0, none⟩) hG).trans hm, Nat.lt_of_lt_of_le hG hW.size⟩)
  have hsm : x1.size ≤ maxLen := by unfold maxLen; omega
  have HSM := Lib.hid hsm
  have hlen : L.length = len := by have := t0.hlen; rwa [List.length_map] at this
  have HLN := Lib.hid hlen
  clear t0 o0 b0 hm hG hsm hlen
  obtain ⟨tw, cw, hw0⟩ : ∃ tw cw, writeOf L = (tw, cw) := ⟨_, _, rfl⟩
  obtain ⟨cc, hcc⟩ : ∃ cc, check L = cc := ⟨_, rfl⟩
  have HCA : Hid ((cc = 0 ∧ tlen L ≤ 200 ∧ tw = textB L ∧ cw = 0) ∨ (cc = 0 ∧ 200 < tlen L ∧ tw = ⟨#[]⟩ ∧ cw = 2) ∨ (cc ≠ 0 ∧ tw = ⟨#[]⟩ ∧ cw = cc)) := by
    have h := hw0
    unfold writeOf at h
    rw [hcc] at h
    split at h
    · split at h
      · rw [Prod.mk.injEq] at h
        exact Lib.hid (Or.inr (Or.inl ⟨by assumption, by assumption, h.1.symm, h.2.symm⟩))
      · rw [Prod.mk.injEq] at h
        exact Lib.hid (Or.inl ⟨by assumption, by omega, h.1.symm, h.2.symm⟩)
    · rw [Prod.mk.injEq] at h
      exact Lib.hid (Or.inr (Or.inr ⟨by assumption, h.1.symm, h.2.symm⟩))
  have C1x := write_any a len cap L w HT.out HO.out
  rw [hw0] at C1x
  have C1 := Lib.hid C1x
  have HCC := Lib.hid hcc
  clear C1x hw0 hcc
  go_enter Tryd.func4, Tryd.ntmps4
  go_wp2_with fail
  refine C1.out.mono ?_
  rintro e v1 ⟨rfl, hb1⟩
  have HB1 := Lib.hid hb1
  have hms := HMX.out v1 hb1
  have C2 := Lib.hid (read_any x1 m v1 HSM.out hms.1 hms.2)
  clear C1 hb1 hms HMX
  go_wp2_with fail
  refine C2.out.mono ?_
  rintro e v2 ⟨s2, rfl, hO2, hb2⟩
  have HB2 := Lib.hid (below_on HB1.out hb2)
  obtain ⟨a2, cap2, rfl, hT2⟩ := hO2.tab
  rw [List.length_map] at hT2 ⊢
  have HR2 := Lib.hid hT2
  have HT2 := Lib.hid (HT.out.below HB2.out)
  have C3x := refPairs_any a len cap L v2 HT2.out HO2.out
  rw [HCC.out] at C3x
  have C3 := Lib.hid C3x
  clear C2 hO2 hT2 hb2 HB1 C3x
  go_wp2_with fail
  refine C3.out.mono ?_
  rintro e v3 ⟨rfl, hb3⟩
  have HB3 := Lib.hid (below_on HB2.out hb3)
  have HT3 := Lib.hid (HT2.out.below hb3)
  have HR3 := Lib.hid (HR2.out.below hb3)
  clear C3 hb3 HB2 HT2 HR2
  have C4 := Lib.hid (key_any x1 v3 HSM.out)
  have C5 := Lib.hid (refKey_any x1 v3 HSM.out)
  generalize keyOk x1.data.toList = kb at *
  have tk : (!(kb == kb)) = false := by cases kb <;> rfl
  have tk2 : (kb != kb) = false := by cases kb <;> rfl
  go_wp2_with fail
  refine C4.out.mono ?_
  rintro e v4 ⟨rfl, rfl⟩
  go_wp2_with fail
  refine C5.out.mono ?_
  rintro e v4 ⟨rfl, hb4⟩
  have HB4 := Lib.hid (below_on HB3.out hb4)
  have HT4 := Lib.hid (HT3.out.below hb4)
  have HR4 := Lib.hid (HR3.out.below hb4)
  have C6x := check_any a len cap L v4 HT4.out HO2.out
  rw [HCC.out] at C6x
  have C6 := Lib.hid C6x
  have tc : ((cc : Int) != cc) = false := by simp
  clear C4 C5 hb4 C6x HB3 HT3 HR3
  go_wp2_with fail
  refine C6.out.mono ?_
  rintro e v5 ⟨rfl, hb5⟩
  have HB5 := Lib.hid (below_on HB4.out hb5)
  have HT5 := Lib.hid (HT4.out.below hb5)
  have HR5 := Lib.hid (HR4.out.below hb5)
  have C7x := key_any (⟨#[97]⟩ : ByteArray) v5 (by decide)
  rw [says_a] at C7x
  have C7 := Lib.hid C7x
  clear C6 hb5 C7x HB4 HT4 HR4
  go_wp2_with fail
  refine C7.out.mono ?_
  rintro e v6 ⟨rfl, rfl⟩
  have C8x := check_any (some ⟨v5.heap.size, 0, none⟩) 1 1 [(ByteArray.empty, ByteArray.empty)] (v5.alloc (.cells #[.string ByteArray.empty, .string ByteArray.empty] 45))
    (tab_lit _ _ 2 1 ([(ByteArray.empty, ByteArray.empty)].map ssC) #[.string ByteArray.empty, .string ByteArray.empty] rfl rfl (rows_of ssC_len _) (by decide) _ rfl) (by intro p hp; simp at hp; subst hp; decide)
  rw [says_empty] at C8x
  have C8 := Lib.hid C8x
  have hbA : Below v5.heap.size v5 (v5.alloc (.cells #[.string ByteArray.empty, .string ByteArray.empty] 45)) := (Below.refl _ _).alloc (Nat.le_refl _) _
  have HBA := Lib.hid hbA
  clear C7 C8x hbA
  go_wp2_with fail
  refine C8.out.mono ?_
  rintro e v7 ⟨rfl, hb7⟩
  have hb57 := below_on HBA.out hb7
  have HB7 := Lib.hid (below_on HB5.out hb57)
  have HT7 := Lib.hid (HT5.out.below hb57)
  have HR7 := Lib.hid (HR5.out.below hb57)
  have HTX := Lib.hid (fun (W : World) (hW : Below v7.heap.size v7 W) (h40 : len ≤ 40) => refText_any a len cap L W (HT7.out.below hW) HO.out h40)
  have HRD := Lib.hid (fun (W : World) => refRead_any x1 W)
  rw [read_same] at HRD
  have HL40 : Hid (cc = 0 → len ≤ 40) := Lib.hid (fun h => by
    have := ((check_zero_iff L).1 (HCC.out.trans h)).1
    have := HLN.out
    omega)
  have HSZ := Lib.hid (textB_size L)
  clear C8 hb7 hb57 HBA HB5 HT5 HR5 HT HCC tk tk2 HT7
  obtain ⟨X, c8, hX⟩ : ∃ X c8, readP x1 = (X, c8) := ⟨_, _, rfl⟩
  rw [hX] at HRD HR7 ⊢
  have te : ((c8 : Int) == c8) = true := by simp
  clear hX HSM HO HO2 HLN
  generalize hTT : textB L = TT at *
  clear hTT
  generalize tlen L = TL at *
  have HEQ := Lib.hid (fun (W W' : World) (hW : Below v7.heap.size v7 W') (b : Option Addr) (cb : Nat) (hT : Tab W' b X.length cb 2 (X.map ssC)) => equal_pairs a2 b X.length cap2 X.length cb X X W' (HR7.out.below hW) hT true (by simp))
  rcases HCA.out with ⟨rfl, hl, rfl, rfl⟩ | ⟨rfl, hl, rfl, rfl⟩ | ⟨hc, rfl, rfl⟩
  · have h40 := HL40.out rfl
    have hs1 := HSZ.out
    have hT200 : tw.size ≤ 200 := by omega
    have tt : (tw.toList != tw.toList) = false := by simp
    have T1 := Lib.hid (HTX.out v7 (Below.refl _ _) h40)
    clear HCA HL40 HSZ hl hs1 tc
    go_wp2_with fail
    refine T1.out.mono ?_
    rintro e v8 ⟨rfl, hb8⟩
    have T2 := Lib.hid (HTX.out v8 hb8 h40)
    clear T1
    go_wp2_with fail
    refine T2.out.mono ?_
    rintro e v9 ⟨rfl, hb9⟩
    have hb79 := below_on hb8 hb9
    clear T2 HTX
    go_wp2_with fail
    refine (HRD.out _).mono ?_
    rintro e v10 ⟨s10, rfl, hO10, hb10⟩
    obtain ⟨a10, cap10, rfl, hT10⟩ := hO10.tab
    rw [List.length_map] at hT10 ⊢
    have E := Lib.hid (HEQ.out v10 v10 (below_on hb79 hb10) a10 cap10 hT10)
    clear HRD HEQ hO10 hT10
    go_wp2_with fail
    refine E.out.mono ?_
    rintro e v11 ⟨rfl, hb11⟩
    go_wp2
    go_ret
    exact ⟨rfl, below_on (below_on (below_on HB7.out hb79) hb10) hb11⟩
  · have h40 := HL40.out rfl
    have hs1 := HSZ.out
    have hT200 : 200 < TT.size := by omega
    have T1 := Lib.hid (HTX.out v7 (Below.refl _ _) h40)
    clear HCA HL40 HSZ hl hs1 HTX tc
    go_wp2_with fail
    refine T1.out.mono ?_
    rintro e v8 ⟨rfl, hb8⟩
    clear T1
    go_wp2_with fail
    refine (HRD.out _).mono ?_
    rintro e v10 ⟨s10, rfl, hO10, hb10⟩
    obtain ⟨a10, cap10, rfl, hT10⟩ := hO10.tab
    rw [List.length_map] at hT10 ⊢
    have E := Lib.hid (HEQ.out v10 v10 (below_on hb8 hb10) a10 cap10 hT10)
    clear HRD HEQ hO10 hT10
    go_wp2_with fail
    refine E.out.mono ?_
    rintro e v11 ⟨rfl, hb11⟩
    go_wp2
    go_ret
    exact ⟨rfl, below_on (below_on (below_on HB7.out hb8) hb10) hb11⟩
  · have tz : ((cw : Int) == 0) = false := by rw [beq_eq_false_iff_ne]; exact hc
    have tn : ((cw : Int) != 0) = true := by rw [bne_iff_ne]; exact hc
    clear HCA HL40 HSZ HTX hc
    go_wp2_with fail
    refine (HRD.out _).mono ?_
    rintro e v10 ⟨s10, rfl, hO10, hb10⟩
    obtain ⟨a10, cap10, rfl, hT10⟩ := hO10.tab
    rw [List.length_map] at hT10 ⊢
    have E := Lib.hid (HEQ.out v10 v10 hb10 a10 cap10 hT10)
    clear HRD HEQ hO10 hT10
    go_wp2_with fail
    refine E.out.mono ?_
    rintro e v11 ⟨rfl, hb11⟩
    go_wp2
    go_ret
    exact ⟨rfl, below_on (below_on HB7.out hb10) hb11⟩

set_option maxRecDepth 100000 in
theorem lifted (os : Os) (started : os.Started) (H : Type) (enc : TypeId × Value → H) :
    ReturnsInHanded {} Tryd.checked os 4 .any (fun w args => (Rows.stateSaysSpec.pre enc Tryd.prog Tryd.f4 Rows.stateSaysRow.domain false w args ∧ laidMetH Tryd.prog Rows.stateSaysRow.laid w) ∧ sizedMet enc Tryd.prog Tryd.f4 (OpenSpec.ofChange Rows.stateSaysSpec) false w args) (Rows.stateSaysSpec.post enc Tryd.prog Tryd.f4 false true false false) := by
  refine handed_and_shaped (C := Tryd.checked) (X := fun w _ => laidMetH Tryd.prog Rows.stateSaysRow.laid w) (fun _ _ _ hh h => h.of_heap hh) own started (by kernel_rfl) Tryd.func4
    (ChangeSpec.witness_shaped (enc := enc) (C := Tryd.checked) (os := os) (X := fun w _ => laidMetH Tryd.prog Rows.stateSaysRow.laid w) false (World.laidAll Tryd.prog os Rows.stateSaysRow.laid) #[.slice none 0 0, .string ByteArray.empty] 8 (World.laidAll_os _ _ _)
      (World.shaped_of_ZipB (by kernel_rfl) (by kernel_rfl)) (by kernel_rfl) (by kernel_rfl) (by kernel_rfl)
      (by rw [MakeChecks.laidMetH_plain _ _ _ (by kernel_rfl)]; exact laidMet_laidAll _ (by kernel_rfl) (by kernel_rfl))) ?_
  intro W base args ds gs before hval0 hW hcnd hsz0 hL hsh _
  have hval : ∀ (j : Nat) t v, Tryd.f4.params[j]? = some t → args[j]? = some v → Value.okWide Tryd.prog W .any base t v := hval0
  have hW' := hW
  obtain ⟨p, q, hA0, hV, rfl, hfz, hnd⟩ := hW
  have hA : DataW.TrodAll enc Tryd.prog W 0 (fun _ => true) true Tryd.f4.params.toList args.toList ds p := hA0
  have hsz : (DataW.weightsEach Tryd.prog (Tryd.f4.params.toList ++ Rows.stateSaysSpec.plain.varTypes Tryd.prog) (ds ++ gs)).all (· ≤ reachBytes) = true := hsz0
  rw [Tryd.params4] at hA hval hsz
  obtain ⟨v0, vs0, d0, ds0, p0, q0, hargs, rfl, rfl, h0, r0⟩ := trodAll_cons hA
  obtain ⟨v1, vs1, d1, ds1, p1, q1, rfl, rfl, rfl, h1, r1⟩ := trodAll_cons r0
  obtain ⟨rfl, rfl, rfl⟩ := trodAll_nil r1
  obtain rfl : args = #[v0, v1] := by cases args; simp_all
  obtain ⟨rfl, rfl⟩ := trodVars_none hV
  have k0 := h0
  have L0 := light_of hsz (j := 0) (t := 30) (d := d0) rfl rfl
  have lt0 : ∀ x ∈ p0, x.block < W.heap.size := by obtain ⟨m, hm⟩ := k0; exact DataW.trod_lt m _ _ _ hm
  obtain ⟨a0, len0, cap0, rfl⟩ := okWide_slice Tryd.underlying30 (hval 0 30 v0 rfl rfl)
  obtain ⟨n0, f0⟩ := trod_slice_of Tryd.underlying30 h0
  have F0 := And.intro f0 L0
  obtain ⟨x0, e0, t0, b0, o0⟩ := el_slice (w := W) (k := 2) ssC wfSS (by decide) Tryd.underlying30 (by kernel_rfl) (el_ss Tryd.underlying45 (by kernel_rfl) (by kernel_rfl) Tryd.underlying9 Tryd.underlying9) (B := 32) (by kernel_rfl) _ _ _ F0.1 F0.2
  simp only [slC, List.cons.injEq, Value.slice.injEq, and_true] at e0
  obtain ⟨rfl, rfl, rfl⟩ := e0
  have k1 := h1
  have L1 := light_of hsz (j := 1) (t := 9) (d := d1) rfl rfl
  have lt1 : ∀ x ∈ p1, x.block < W.heap.size := by obtain ⟨m, hm⟩ := k1; exact DataW.trod_lt m _ _ _ hm
  obtain ⟨x1, rfl, rfl, rfl, _⟩ := open_string Tryd.underlying9 (hval 1 9 v1 rfl rfl) h1
  have w1 : x1.size ≤ 140737488351232 := L1 x1.size (by simp [DataW.weights])
  clear hA0 hval0
  obtain ⟨m, hm⟩ := cell_of_shapedOpen_int (g := 2) (zero := #[.int .i64 0]) hsh (of_decide_eq_true (by kernel_rfl)) (by kernel_rfl) (by kernel_rfl) (by kernel_rfl) (by kernel_rfl) Tryd.underlying3
  have hG : 2 < W.heap.size := World.block_lt_of_cell? _ _ hm
  refine (walk x0 x1 W t0 b0 o0 w1 m hm hG).mono fun e W' ⟨he, hg⟩ => ?_
  subst he
  exact ⟨_, rfl, _, _, _, [], _, [], hW', trodAll_mk1 (shut_bool Tryd.underlying4 _), (trodAll_cons_mk (Below.trod laidOut (by kernel_rfl) (of_decide_eq_true (by kernel_rfl)) k0 hg lt0) (trodAll_cons_mk (Below.trod laidOut (by kernel_rfl) (of_decide_eq_true (by kernel_rfl)) k1 hg lt1) trodAll_mk0)), rfl, hg.frame _, fun h => by cases h⟩

theorem over : Rows.stateSaysRow.holds Tryd.pinned (OpenSpec.ofChange Rows.stateSaysSpec) :=
  OpenClaim.holds_of_wide 4 Tryd.f4 rfl rfl rfl rfl rfl rfl rfl ⟨rfl, rfl, rfl, rfl, rfl⟩ rfl rfl rfl rfl rfl (by kernel_rfl) Tryd.func4 (by kernel_rfl)
    (of_decide_eq_true (by kernel_rfl)) (by unfold Func.isWrapper; first | (rw [if_pos (by decide +kernel)]; kernel_rfl) | (rw [if_neg (by decide +kernel)]; exact ⟨rfl, rfl⟩))
    (fun os started H enc _ => lifted os started H enc)

/-- ████ THE CARD ████ -/
theorem proved : Rows.StateSaysCardSaid :=
  Claim7.holds_tied_plain_at .later [] _ _ _ _ over (fun _ h => by cases h) (by kernel_rfl) (fun _ h => by cases h) stateSays_row_tie rfl ⟨rfl, rfl⟩ (by kernel_rfl) rfl
    (fun f fn hf hfn => by
      obtain rfl : f = 4 := Option.some.inj ((show Tryd.prog.funcNamed "cullender/cullaw.StateSays" = some 4 by kernel_rfl).symm.trans hf) |>.symm
      obtain rfl : fn = Tryd.f4 := (Option.some.inj (Tryd.func4.symm.trans hfn)).symm
      exact ⟨by kernel_rfl, fun j t ht => by
        rw [Tryd.params4] at ht
        have hm : t ∈ [30, 9] := by have := Array.mem_of_getElem? ht; simp at this ⊢; first | omega | exact this | (rcases this with h | h <;> simp [h]) | (rcases this with h | h | h <;> simp [h])
        have hall : ([30, 9].all fun u => !Tryd.prog.wantsStandIn u) = true := by kernel_rfl
        exact (show Tryd.prog.wantsStandIn t = false by simpa using List.all_eq_true.1 hall t hm)⟩)
    (by kernel_rfl)
#print axioms proved
end Go.Proofs.YtanfkolcoaofdabDoor.stateSays
