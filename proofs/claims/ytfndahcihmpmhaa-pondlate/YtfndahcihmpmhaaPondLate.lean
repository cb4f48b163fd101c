/-
  'Rows.PondLateSaid' is proved: a draw of at least K changes no item, and a smaller one replaces exactly one. No condition.
  The frame of this proof was written by the kit's proof-skeleton.mjs.
-/
import Derived.Test.YtfndahcihmpmhaaRows
import Derived.Test.YtfndahcihmpmhaaWithin
import Derived.Test.YtfndahcihmpmhaaPondVar
import Derived.Test.YtfndahcihmpmhaaEqualInts
import Derived.Test.YtfndahcihmpmhaaLit
import Derived.Test.YtfndahcihmpmhaaDigitMath
import Derived.Deep.DeepCutAuto
import Derived.Deep.LoopGhost
import Derived.Deep.RegionWith
import Derived.WalkKit
import Derived.ProofKit
import Derived.ChangeOld
import Derived.Below
import Derived.OpenShut
import Derived.ShutString
namespace Go.Proofs.Ytfndahcihmpmhaa.pondLate
open Go.ChangeShapes Go.WideShapes Go.ChangeAt Go.RowKit
open Go.ChangeMaps (open_string shut_string)
set_option linter.unusedVariables false      -- a walk need not use every 'w<i>' (that an integer argument fits its kind)

theorem own : ownKnob Try.prog.godebug = none := by kernel_rfl

open Digit

/-! ### STEP 1: THE WALK: the Go text returns true. 'Grown w w'': the world has at most new blocks (Derived/RowKit3.lean). Part the cases AHEAD of 'go_enter' where a test parts the walk; take each callee by a contract of your own. -/
set_option maxRecDepth 100000 in
set_option maxHeartbeats 2000000 in
theorem walk (a0 : Int) (a1 : Int) (a2 : Int) (w0 : (Lit.int .i64 a0).wf = true) (w1 : (Lit.int .i64 a1).wf = true) (w2 : (Lit.int .i64 a2).wf = true) (w : World) :
    Calls Try.prog 10 #[.int .i64 a0, .int .i64 a1, .int .i64 a2] w fun e w' => e = .returned (.bool true) ∧ Below w.heap.size w w' := by
  have b0 := wf_i64 w0
  have b1 := wf_i64 w1
  have b2 := wf_i64 w2
  have C0 := put_ok 1 5 (some ⟨w.heap.size, 0, none⟩) 1 1 [7] 8 5 (w.alloc (.cells #[.int .i64 7] 3)) (tab_lit w 3 1 1 ([(7 : Int)].map iC) #[.int .i64 7] rfl rfl (rows_of iC_len _) (by decide) _ rfl) (by decide)
  rw [show pondL 1 5 [7] 8 5 = [7] from by decide, show (5 : Int) + 1 = 6 from rfl] at C0
  have C0 := Lib.hid C0
  have hb0 : Below w.heap.size w (w.alloc (.cells #[.int .i64 7] 3)) := (Below.refl _ _).alloc (Nat.le_refl _) _
  unfold pondV at C0
  go_enter Try.func10, Try.ntmps10
  go_wp2_with fail
  refine C0.out.mono ?_
  rintro e v1 ⟨s1, rfl, hO1, hb1⟩
  obtain ⟨q1, cap1, rfl, hT1⟩ := hO1.tab
  have HB1 := Lib.hid (below_on hb0 hb1)
  have E1 := Lib.hid (equal_ints q1 (some ⟨v1.heap.size + 1, 0, none⟩) 1 cap1 1 1 [7] [7] ((v1.alloc (.cells #[.int .i64 1, .int .i64 6, .slice q1 1 cap1] 24)).alloc (.cells #[.int .i64 7] 3))
    (hT1.below (((Below.refl _ _).alloc (Nat.le_refl _) _).alloc (by simp) _)) (tab_lit _ _ 1 1 ([(7 : Int)].map iC) #[.int .i64 7] rfl rfl (rows_of iC_len _) (by decide) _ (by simp)) true (by simp))
  clear hO1 hT1 hb0 hb1 C0
  go_wp2_with fail
  refine E1.out.mono ?_
  rintro e v2 ⟨rfl, hb2⟩
  have hk2 := keep_blk hb2 (heap_two _ _ _)
  have c1 := (pond_cells hk2).1.2.1
  have HB2 := Lib.hid (below_on (HB1.out.trans (((Below.refl _ _).alloc (by have := HB1.out.size; exact this) _).alloc (by have := HB1.out.size; simp; omega) _)) hb2)
  clear HB1 hb2 hk2 E1
  have d0 := withI_bd a0 16 (by omega)
  have d1 := withI_bd a1 1000 (by omega)
  have HW := Lib.hid (fun W => within_int a1 1000 W b1 (by omega) (by omega))
  generalize withI a1 1000 = M at *
  obtain ⟨M, rfl⟩ := Int.eq_ofNat_of_zero_le d1.1
  go_wp2_with fail
  refine (within_int a0 16 _ b0 (by omega) (by omega)).mono ?_
  rintro e v3 ⟨rfl, rfl⟩
  generalize withI a0 16 = K0 at *
  obtain ⟨K0, rfl⟩ := Int.eq_ofNat_of_zero_le d0.1
  clear c1
  go_upto_region 5 with fail
  obtain ⟨k, hk⟩ : ∃ k : Nat, (1 + (K0 : Int)) = (k : Int) := ⟨1 + K0, by simp⟩
  rw [hk]
  have hk1 : 1 ≤ k := by omega
  have hk2 : k ≤ 16 := by omega
  have hM : M < 1000 := by omega
  obtain ⟨T, hT0⟩ : ∃ T : Nat, ((k : Int) + (M : Int)) = (T : Int) := ⟨k + M, by simp⟩
  have HT0 := Lib.hid hT0
  have HWR : Hid (IntKind.i64.wrap (T : Int) = T) := Lib.hid (by rw [IntKind.wrap_i64]; omega)
  have hT1 : k ≤ T := by omega
  have hT2 : T < 2000 := by omega
  clear d0 d1 hk hT0
  have HP0 := Lib.hid (PVar.new (wr := v2) k 0 HB2.out)
  generalize hW4 : (v2.alloc (Obj.cells #[Value.int IntKind.i64 k, Value.int IntKind.i64 0, Value.slice none 0 0] 24)) = W4 at *
  generalize hBB : v2.heap.size = B at *
  clear hW4 hBB HB2
  go_cut [43] (fun s wx => Hid (PVar w wx B k T (.slice none 0 0) []))
  case first =>
    obtain ⟨⟨c0, c1, c2⟩, f0, f1, f2⟩ := pond_cells HP0.out.blk
    go_region_with (first | (go_at_call 27; refine (HW.out _).mono ?_; rintro e w5 ⟨rfl, rfl⟩))
    all_goals
      rw [HT0.out, HWR.out]
      go_wp2_with fail
      go_meet
      case rel => first | exact Lib.hid (HP0.out.seen _).drew | exact Lib.hid (HP0.out.drew.seen _)
  case rest =>
  have HP1 : Hid (PVar w wc B k T (.slice none 0 0) (rowOf 0)) := hcut
  clear hcut HP0 HW HT0 hM
  obtain ⟨⟨c0, c1, c2⟩, f0, f1, f2⟩ := pond_cells HP1.out.blk
  go_wp2_with fail
  clear c0 c1 c2 f0 f1 f2
  go_loopg [47] k (fun g i wr => ∃ (j : Nat) (v : Value), j + g = k ∧ i = .int .i64 j ∧ Hid (PVar w wr B k T v (rowOf j)))
  case atStart => exact ⟨0, _, by omega, rfl, HP1⟩
  case round =>
    clear HP1
    obtain ⟨j, v, hj0, rfl, HP⟩ := hrel
    have HJ := Lib.hid hj0
    have hj : j ≤ k := by omega
    clear hj0
    have hlj := rowOf_len j
    obtain ⟨aj, cj, rfl, hTj⟩ := HP.out.own.tab
    rw [List.length_map, hlj] at hTj HP
    have HTj := Lib.hid hTj
    obtain ⟨⟨c0, c1, c2⟩, f0, f1, f2⟩ := pond_cells HP.out.blk
    clear hTj hlj
    by_cases hlt : j < k
    · go_wp2_with ((at_builtin; refine wpList_append_rows _ rfl _ _ 22 rfl (B + 1) 3 _ 1 8 Try.underlying22 info_int rfl (by decide) _ ((rowOf j).map iC) rfl (HP.out.own.alloc _) ⟨wr.heap.size, 0, none⟩ 1 1 [iC j] rfl rfl (by simp [iC]) (one_row wr (iC j) 3 _ rfl) (by simp [iC, Value.oneCell']) (by rw [List.length_map, rowOf_len]; omega) (by decide) (by have := HP.out.big; simp; omega) ?_; intro v6 w6 hO6 hg6; obtain ⟨hk6, hb6⟩ := HP.out.mid hg6; obtain ⟨⟨e0, e1, e2⟩, r0, r1, r2⟩ := pond_cells hk6; have HP6 := Lib.hid (PVar.push hk6 hb6 hO6 HP.out.lo); obtain ⟨a6, cap6, rfl, hT6⟩ := hO6.tab))
      go_roundg (k - (j + 1))
      case measure => have := HJ.out; omega
      case rel => exact ⟨j + 1, _, by omega, by go_num, by rw [rowOf_succ]; have h := HP6; simp only [List.length_append, List.length_map, List.length_cons, List.length_nil, Nat.zero_add] at h; exact h⟩
    · obtain rfl : j = k := by omega
      clear HJ hj hlt
      have d2 := withI_bd a2 ((T : Int) + 1) (by omega)
      have HW := Lib.hid (fun W => within_int a2 ((T : Int) + 1) W b2 (by omega) (by omega))
      generalize withI a2 ((T : Int) + 1) = D at *
      obtain ⟨D, rfl⟩ := Int.eq_ofNat_of_zero_le d2.1
      have C7 := Lib.hid (put_ok j T aj j cj (rowOf j) 99 D wr HTj.out (putE_full hk1 hk2 (by omega) (by omega) (by omega) (by omega)))
      unfold pondV at C7
      go_wp2_with fail
      refine (HW.out _).mono ?_
      rintro e w7 ⟨rfl, rfl⟩
      go_wp2_with fail
      refine C7.out.mono ?_
      rintro e w8 ⟨s8, rfl, hO8, hb8⟩
      obtain ⟨a8, cap8, rfl, hT8⟩ := hO8.tab
      rw [List.length_map, pondL_len, if_neg (by omega), rowOf_len] at hT8 ⊢
      have HP8 := Lib.hid ((HP.out.below hb8).alloc (.cells #[.int .i64 j, .int .i64 ((T : Int) + 1), .slice a8 j cap8] 24))
      have HT8 := Lib.hid (hT8.below ((Below.refl _ _).alloc (Nat.le_refl _) (.cells #[.int .i64 j, .int .i64 ((T : Int) + 1), .slice a8 j cap8] 24)))
      have HV : Hid (∀ n : Nat, n < j → (pondL j T (rowOf j) 99 D)[n]? = some (if n = D then 99 else (n : Int))) := by
        refine Lib.hid fun n hn => ?_
        unfold pondL
        rw [if_neg (by omega)]
        by_cases hD : D < j
        · rw [if_pos hD]
          by_cases e : n = D
          · subst e
            rw [if_pos rfl, List.getElem?_set_self (by rw [rowOf_len]; exact hn)]
          · rw [if_neg e, List.getElem?_set_ne (fun h => e h.symm), rowOf_get hn]
        · rw [if_neg hD, if_neg (by omega), rowOf_get hn]
      clear hO8 hb8 hT8 c0 c1 c2 f0 f1 f2 HP HTj C7 HW
      obtain ⟨⟨c0, c1, c2⟩, f0, f1, f2⟩ := pond_cells HP8.out.blk
      have e8 : (w8.alloc (.cells #[.int .i64 j, .int .i64 ((T : Int) + 1), .slice a8 j cap8] 24)).cell? ⟨w8.heap.size, 2, none⟩ = some (.slice a8 j cap8) := cell_blk (MapKept.heap_alloc _ _).1 rfl
      go_wp2_with fail
      clear c0 c1 c2 f0 f1 f2 e8
      generalize hW9 : w8.alloc (.cells #[.int .i64 j, .int .i64 ((T : Int) + 1), .slice a8 j cap8] 24) = W9 at *
      clear hW9
      go_loopg [81] j (fun g i wr => ∃ n : Nat, n + g = j ∧ i = .int .i64 n ∧ wr = W9)
      case atStart => exact ⟨0, by omega, rfl, rfl⟩
      case round =>
        obtain ⟨n, hn0, rfl, rfl⟩ := hrel
        have HN := Lib.hid hn0
        have hn : n ≤ j := by omega
        clear hn0
        by_cases hlt : n < j
        · obtain ⟨b1, o1, ha, hbs, cn⟩ := HT8.out.one (Below.refl _ _) (map_get (HV.out n hlt))
          subst ha
          by_cases e : n = D
          · subst e
            rw [if_pos rfl] at cn
            go_wp2_with fail
            go_roundg (j - (n + 1))
            case measure => have := HN.out; omega
            case rel => exact ⟨n + 1, by omega, by go_num, rfl⟩
          · rw [if_neg e] at cn
            have t1 : ((n : Int) == (D : Int)) = false := by rw [beq_eq_false_iff_ne]; omega
            have t2 : ((n : Int) != (D : Int)) = true := by rw [bne_iff_ne]; omega
            go_wp2_with fail
            go_roundg (j - (n + 1))
            case measure => have := HN.out; omega
            case rel => exact ⟨n + 1, by omega, by go_num, rfl⟩
        · obtain rfl : n = j := by omega
          go_wp2
          go_ret
          exact ⟨rfl, HP8.out.bel⟩

/-! ### THE ROW's STEP: WRITTEN OUT: LEAVE IT -/
set_option maxRecDepth 100000 in
theorem lifted (os : Os) (started : os.Started) (H : Type) (enc : TypeId × Value → H) :
    ReturnsInHanded {} Try.checked os 10 .any (Rows.pondLateSpec.pre6 enc Try.prog Try.f10 Rows.pondLateRow.domain false) (Rows.pondLateSpec.post enc Try.prog Try.f10 false true false false) := by
  refine returnsInHanded_of_change (C := Try.checked) own started (by kernel_rfl) Try.func10
    (ChangeSpec.witness6 (enc := enc) (C := Try.checked) false ⟨#[], #[.int .i64 0, .int .i64 0, .int .i64 0], []⟩ 8 (by kernel_rfl) (by kernel_rfl) (by kernel_rfl) (by kernel_rfl)) ?_
  intro W base args ds gs before hval0 hW hcnd _
  have hval : ∀ (j : Nat) t v, Try.f10.params[j]? = some t → args[j]? = some v → Value.okWide Try.prog W .any base t v := hval0
  have hW' := hW
  obtain ⟨p, q, hA0, hV, rfl, hfz, hnd⟩ := hW
  have hA : DataW.TrodAll enc Try.prog W 0 (fun _ => true) true Try.f10.params.toList args.toList ds p := hA0
  rw [Try.params10] at hA hval
  obtain ⟨v0, vs0, d0, ds0, p0, q0, hargs, rfl, rfl, h0, r0⟩ := trodAll_cons hA
  obtain ⟨v1, vs1, d1, ds1, p1, q1, rfl, rfl, rfl, h1, r1⟩ := trodAll_cons r0
  obtain ⟨v2, vs2, d2, ds2, p2, q2, rfl, rfl, rfl, h2, r2⟩ := trodAll_cons r1
  obtain ⟨rfl, rfl, rfl⟩ := trodAll_nil r2
  obtain rfl : args = #[v0, v1, v2] := by cases args; simp_all
  obtain ⟨rfl, rfl⟩ := trodVars_none hV
  obtain ⟨a0, rfl, rfl, rfl, w0⟩ := open_int Try.underlying3 (hval 0 3 v0 rfl rfl) h0
  obtain ⟨a1, rfl, rfl, rfl, w1⟩ := open_int Try.underlying3 (hval 1 3 v1 rfl rfl) h1
  obtain ⟨a2, rfl, rfl, rfl, w2⟩ := open_int Try.underlying3 (hval 2 3 v2 rfl rfl) h2
  clear hA0 hval0
  simp only [List.append_nil] at hW'
  refine (walk a0 a1 a2 w0 w1 w2 W).mono fun e W' ⟨he, hg⟩ => ?_
  subst he
  exact ⟨_, rfl, _, _, _, [], _, [], hW', (trodAll_cons_mk (shut_bool Try.underlying4 _) trodAll_mk0), (trodAll_cons_mk (shut_int Try.underlying3 w0) (trodAll_cons_mk (shut_int Try.underlying3 w1) (trodAll_cons_mk (shut_int Try.underlying3 w2) trodAll_mk0))), rfl, hg.frame _, fun h => by cases h⟩

theorem over : Rows.pondLateRow.holds Try.pinned (OpenSpec.ofChange Rows.pondLateSpec) :=
  OpenClaim.holds_of_wide 10 Try.f10 rfl rfl rfl rfl rfl rfl rfl ⟨rfl, rfl, rfl, rfl, rfl⟩ rfl rfl rfl rfl rfl (by kernel_rfl) Try.func10 (by kernel_rfl)
    (of_decide_eq_true (by kernel_rfl)) (by unfold Func.isWrapper; first | (rw [if_pos (by decide +kernel)]; kernel_rfl) | (rw [if_neg (by decide +kernel)]; exact ⟨rfl, rfl⟩))
    (fun os started H enc _ => lifted os started H enc)

/-- ████ THE STATEMENT ████ -/
theorem proved : Rows.PondLateSaid :=
  over
#print axioms proved
end Go.Proofs.Ytfndahcihmpmhaa.pondLate
