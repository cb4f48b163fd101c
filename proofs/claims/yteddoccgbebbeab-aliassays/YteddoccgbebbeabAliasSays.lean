/-
  'Rows.AliasSaysSaid' is proved: Make answers the document's own table, and the document's faults, for all weights. No condition.
-/
import Derived.Test.YteddoccgbebbeabRows
import Derived.Test.YteddoccgbebbeabShapes
import Derived.Test.YteddoccgbebbeabRefAlias
import Derived.Test.YteddoccgbebbeabRefWeights
import Derived.Test.YteddoccgbebbeabAliasMake
import Derived.Test.YteddoccgbebbeabEqualInts
import Derived.Test.YteddoccgbebbeabLit
import Derived.Deep.DeepCutAuto
import Derived.Deep.RegionWith
import Derived.WalkKit
import Derived.ProofKit
import Derived.OpenShut
import Derived.ShutString
import Derived.ChangeOld
import Derived.Below
namespace Go.Proofs.Yteddoccgbebbeab.aliasSays
open Go.ChangeShapes Go.WideShapes Go.ChangeAt Go.RowKit
open Go.ChangeMaps (open_string shut_string)
set_option linter.unusedVariables false

theorem own : ownKnob Try.prog.godebug = none := by kernel_rfl
theorem laidOut : laidOutB Try.prog = true := by kernel_rfl

theorem w13 : weightsE [1, 3] = 0 := by decide
theorem t13 : (Walker.table [1, 3]).own = [2, 4] ∧ (Walker.table [1, 3]).rest = [1, 1] := by decide +kernel

set_option maxRecDepth 100000 in
set_option maxHeartbeats 2000000 in
theorem walk (x0 : Sl Int) (w : World) (t0 : Tab w x0.a x0.len x0.cap 1 (x0.l.map iC)) (b0 : x0.len * 8 ≤ 140737488351232) (o0 : ∀ z ∈ x0.l, wfI z) :
    Calls Try.prog 4 #[.slice x0.a x0.len x0.cap] w fun e w' => e = .returned (.bool true) ∧ Below w.heap.size w w' := by
  obtain ⟨a, len, cap, L⟩ := x0
  have HT := Lib.hid t0
  clear t0 b0 o0
  have HW := Lib.hid (fun (W : World) (hW : Tab W a len cap 1 (L.map iC)) => refWeights_any a len cap L W hW)
  by_cases hE : weightsE L = 0
  · have C1 := Lib.hid (make_ok a len cap L w HT.out hE)
    have HR := Lib.hid (fun (W : World) (hW : Tab W a len cap 1 (L.map iC)) => refAlias_ok a len cap L W hW hE)
    rw [hE, if_pos rfl] at HW
    generalize L.sum = A at *
    generalize (Walker.table L).own = TO at *
    generalize (Walker.table L).rest = TR at *
    clear hE
    go_enter Try.func4, Try.ntmps4
    go_wp2_with fail
    refine C1.out.mono ?_
    rintro e v1 ⟨O, R, rfl, hM1, hb1⟩
    have HS := Lib.hid (fun (W : World) (q6 q7 : Option Addr) (n6 c6 n7 c7 : Nat) (h1 : Tab W (some ⟨O, 0, none⟩) len len 1 (TO.map iC)) (h2 : Tab W (some ⟨R, 0, none⟩) len len 1 (TR.map iC)) (h3 : Tab W q6 n6 c6 1 (TO.map iC)) (h4 : Tab W q7 n7 c7 1 (TR.map iC)) => sameAlias_yes A (some ⟨O, 0, none⟩) (some ⟨R, 0, none⟩) q6 q7 len len len len n6 c6 n7 c7 TO TR W h1 h2 h3 h4)
    unfold aliasV at HS
    have hba : Below v1.heap.size v1 (v1.alloc (.cells #[.int .i64 A, .slice (some ⟨O, 0, none⟩) len len, .slice (some ⟨R, 0, none⟩) len len] 27)) := (Below.refl _ _).alloc (Nat.le_refl _) _
    have hbb : Below v1.heap.size v1 ((v1.alloc (.cells #[.int .i64 A, .slice (some ⟨O, 0, none⟩) len len, .slice (some ⟨R, 0, none⟩) len len] 27)).alloc (.cells #[.int .i64 1, .int .i64 3] 3)) := hba.alloc (by simp) _
    have HX1 : Hid (((v1.alloc (.cells #[.int .i64 A, .slice (some ⟨O, 0, none⟩) len len, .slice (some ⟨R, 0, none⟩) len len] 27)).alloc (.cells #[.int .i64 1, .int .i64 3] 3)).heap[v1.heap.size]? = some (.cells #[.int .i64 A, .slice (some ⟨O, 0, none⟩) len len, .slice (some ⟨R, 0, none⟩) len len] 27 (0, 0))) := Lib.hid (heap_two0 _ _ _)
    have HB1 := Lib.hid (below_on hb1 hbb)
    have HTO1 := Lib.hid ((hM1.own _ (List.mem_cons_self ..)).tab_of.below hbb)
    have HTR1 := Lib.hid ((hM1.own _ (List.mem_cons_of_mem _ (List.mem_cons_self ..))).tab_of.below hbb)
    clear hM1
    have C2 := make_ok (some ⟨v1.heap.size + 1, 0, none⟩) 2 2 [1, 3] ((v1.alloc (.cells #[.int .i64 A, .slice (some ⟨O, 0, none⟩) len len, .slice (some ⟨R, 0, none⟩) len len] 27)).alloc (.cells #[.int .i64 1, .int .i64 3] 3)) (tab_lit (v1.alloc (.cells #[.int .i64 A, .slice (some ⟨O, 0, none⟩) len len, .slice (some ⟨R, 0, none⟩) len len] 27)) 3 1 2 ([(1 : Int), 3].map iC) #[.int .i64 1, .int .i64 3] rfl rfl (rows_of iC_len _) (by decide) _ (by simp)) w13
    rw [show ([1, 3] : List Int).sum = 4 from by decide, t13.1, t13.2] at C2
    have C2 := Lib.hid C2
    clear C1 hb1 hba hbb
    go_wp2_with fail
    refine C2.out.mono ?_
    rintro e v2 ⟨O2, R2, rfl, hM2, hb2⟩
    have hbc : Below v2.heap.size v2 (((v2.alloc (.cells #[.int .i64 4, .slice (some ⟨O2, 0, none⟩) 2 2, .slice (some ⟨R2, 0, none⟩) 2 2] 27)).alloc (.cells #[.int .i64 2, .int .i64 4] 3)).alloc (.cells #[.int .i64 1, .int .i64 1] 3)) := (((Below.refl _ _).alloc (Nat.le_refl _) _).alloc (by simp) _).alloc (by simp <;> omega) _
    have C3 := sameAlias_yes 4 (some ⟨O2, 0, none⟩) (some ⟨R2, 0, none⟩) (some ⟨v2.heap.size + 1, 0, none⟩) (some ⟨v2.heap.size + 1 + 1, 0, none⟩) 2 2 2 2 2 2 2 2 [2, 4] [1, 1] (((v2.alloc (.cells #[.int .i64 4, .slice (some ⟨O2, 0, none⟩) 2 2, .slice (some ⟨R2, 0, none⟩) 2 2] 27)).alloc (.cells #[.int .i64 2, .int .i64 4] 3)).alloc (.cells #[.int .i64 1, .int .i64 1] 3)) ((hM2.own _ (List.mem_cons_self ..)).tab_of.below hbc) ((hM2.own _ (List.mem_cons_of_mem _ (List.mem_cons_self ..))).tab_of.below hbc)
      ((tab_lit (v2.alloc (.cells #[.int .i64 4, .slice (some ⟨O2, 0, none⟩) 2 2, .slice (some ⟨R2, 0, none⟩) 2 2] 27)) 3 1 2 ([(2 : Int), 4].map iC) #[.int .i64 2, .int .i64 4] rfl rfl (rows_of iC_len _) (by decide) _ (by simp)).below ((Below.refl _ _).alloc (Nat.le_refl _) _)) (tab_lit ((v2.alloc (.cells #[.int .i64 4, .slice (some ⟨O2, 0, none⟩) 2 2, .slice (some ⟨R2, 0, none⟩) 2 2] 27)).alloc (.cells #[.int .i64 2, .int .i64 4] 3)) 3 1 2 ([(1 : Int), 1].map iC) #[.int .i64 1, .int .i64 1] rfl rfl (rows_of iC_len _) (by decide) _ (by simp))
    unfold aliasV at C3
    have C3 := Lib.hid C3
    have hx2 : (v2.alloc (.cells #[.int .i64 4, .slice (some ⟨O2, 0, none⟩) 2 2, .slice (some ⟨R2, 0, none⟩) 2 2] 27)).heap[v2.heap.size]? = some (.cells #[.int .i64 4, .slice (some ⟨O2, 0, none⟩) 2 2, .slice (some ⟨R2, 0, none⟩) 2 2] 27 (0, 0)) := (MapKept.heap_alloc v2 _).1
    obtain ⟨⟨k0, k1, k2⟩, _, _, _⟩ := alias_cells hx2
    have HX3 := Lib.hid (kept_blk hbc (kept_blk hb2 HX1.out))
    have HB3 := Lib.hid (below_on (below_on HB1.out hb2) hbc)
    have HTO3 := Lib.hid ((HTO1.out.below hb2).below hbc)
    have HTR3 := Lib.hid ((HTR1.out.below hb2).below hbc)
    clear HTO1 HTR1
    clear C2 hM2 hb2 hbc hx2 HX1 HB1
    go_wp2_with fail
    refine C3.out.mono ?_
    rintro e v3 ⟨rfl, hb3⟩
    have HX4 := Lib.hid (kept_blk hb3 HX3.out)
    have HB4 := Lib.hid (below_on HB3.out hb3)
    have HTO4 := Lib.hid (HTO3.out.below hb3)
    have HTR4 := Lib.hid (HTR3.out.below hb3)
    clear HTO3 HTR3
    have HT4 := Lib.hid (HT.out.below HB4.out)
    clear C3 hb3 HX3 HB3 k0 k1 k2
    go_wp2_with fail
    refine (HW.out _ HT4.out).mono ?_
    rintro e v4 ⟨rfl, hw⟩
    have hw := hw.symm
    subst hw
    obtain ⟨⟨c0, c1, c2⟩, _, _, _⟩ := alias_cells HX4.out
    go_wp2_with fail
    go_region_with (first | (go_at_call 18; refine Calls.mono (HR.out _ ?_) ?_; (first | exact HT4.out | exact HT4.out.below ((Below.refl _ _).drew)); rintro e w6 ⟨vo, vr, rfl, hO6, hR6, hb6⟩; obtain ⟨q6, cap6, hv6, hT6⟩ := hO6.tab; obtain ⟨q7, cap7, hv7, hT7⟩ := hR6.tab; rw [List.length_map] at hv6 hT6 hv7 hT7; subst hv6 hv7; obtain ⟨⟨i0, i1, i2⟩, _, _, _⟩ := alias_cells (kept_blk hb6 HX4.out)) | (go_at_call 16; refine Calls.mono (HS.out _ _ _ _ _ _ _ (HTO4.out.below (below_drawn hb6)) (HTR4.out.below (below_drawn hb6)) hT6 hT7) ?_; rintro e w7 ⟨rfl, hb7⟩))
    all_goals
      go_wp2_with fail
      go_ret
      exact ⟨rfl, below_on (below_on HB4.out (below_drawn hb6)) hb7⟩
  · have C1 := Lib.hid (make_bad a len cap L w HT.out hE)
    rw [if_neg hE] at HW
    have t1 : (weightsE L != 0) = true := by simpa using hE
    have t2 : (weightsE L == weightsE L) = true := by simp
    have HS := Lib.hid (fun W => sameAlias_yes 0 none none none none 0 0 0 0 0 0 0 0 [] [] W (Own.nil W 0 3 1).tab_of (Own.nil W 0 3 1).tab_of (Own.nil W 0 3 1).tab_of (Own.nil W 0 3 1).tab_of)
    unfold aliasV at HS
    generalize weightsE L = E at *
    clear hE
    go_enter Try.func4, Try.ntmps4
    go_wp2_with fail
    refine C1.out.mono ?_
    rintro e v1 ⟨rfl, hb1⟩
    have hba : Below v1.heap.size v1 (v1.alloc (.cells #[.int .i64 0, .slice none 0 0, .slice none 0 0] 27)) := (Below.refl _ _).alloc (Nat.le_refl _) _
    have hbb : Below v1.heap.size v1 ((v1.alloc (.cells #[.int .i64 0, .slice none 0 0, .slice none 0 0] 27)).alloc (.cells #[.int .i64 1, .int .i64 3] 3)) := hba.alloc (by simp) _
    have HX1 : Hid (((v1.alloc (.cells #[.int .i64 0, .slice none 0 0, .slice none 0 0] 27)).alloc (.cells #[.int .i64 1, .int .i64 3] 3)).heap[v1.heap.size]? = some (.cells #[.int .i64 0, .slice none 0 0, .slice none 0 0] 27 (0, 0))) := Lib.hid (heap_two0 _ _ _)
    have HB1 := Lib.hid (below_on hb1 hbb)
    have C2 := make_ok (some ⟨v1.heap.size + 1, 0, none⟩) 2 2 [1, 3] ((v1.alloc (.cells #[.int .i64 0, .slice none 0 0, .slice none 0 0] 27)).alloc (.cells #[.int .i64 1, .int .i64 3] 3)) (tab_lit (v1.alloc (.cells #[.int .i64 0, .slice none 0 0, .slice none 0 0] 27)) 3 1 2 ([(1 : Int), 3].map iC) #[.int .i64 1, .int .i64 3] rfl rfl (rows_of iC_len _) (by decide) _ (by simp)) w13
    rw [show ([1, 3] : List Int).sum = 4 from by decide, t13.1, t13.2] at C2
    have C2 := Lib.hid C2
    clear C1 hb1 hba hbb
    go_wp2_with fail
    refine C2.out.mono ?_
    rintro e v2 ⟨O2, R2, rfl, hM2, hb2⟩
    have hbc : Below v2.heap.size v2 (((v2.alloc (.cells #[.int .i64 4, .slice (some ⟨O2, 0, none⟩) 2 2, .slice (some ⟨R2, 0, none⟩) 2 2] 27)).alloc (.cells #[.int .i64 2, .int .i64 4] 3)).alloc (.cells #[.int .i64 1, .int .i64 1] 3)) := (((Below.refl _ _).alloc (Nat.le_refl _) _).alloc (by simp) _).alloc (by simp <;> omega) _
    have C3 := sameAlias_yes 4 (some ⟨O2, 0, none⟩) (some ⟨R2, 0, none⟩) (some ⟨v2.heap.size + 1, 0, none⟩) (some ⟨v2.heap.size + 1 + 1, 0, none⟩) 2 2 2 2 2 2 2 2 [2, 4] [1, 1] (((v2.alloc (.cells #[.int .i64 4, .slice (some ⟨O2, 0, none⟩) 2 2, .slice (some ⟨R2, 0, none⟩) 2 2] 27)).alloc (.cells #[.int .i64 2, .int .i64 4] 3)).alloc (.cells #[.int .i64 1, .int .i64 1] 3)) ((hM2.own _ (List.mem_cons_self ..)).tab_of.below hbc) ((hM2.own _ (List.mem_cons_of_mem _ (List.mem_cons_self ..))).tab_of.below hbc)
      ((tab_lit (v2.alloc (.cells #[.int .i64 4, .slice (some ⟨O2, 0, none⟩) 2 2, .slice (some ⟨R2, 0, none⟩) 2 2] 27)) 3 1 2 ([(2 : Int), 4].map iC) #[.int .i64 2, .int .i64 4] rfl rfl (rows_of iC_len _) (by decide) _ (by simp)).below ((Below.refl _ _).alloc (Nat.le_refl _) _)) (tab_lit ((v2.alloc (.cells #[.int .i64 4, .slice (some ⟨O2, 0, none⟩) 2 2, .slice (some ⟨R2, 0, none⟩) 2 2] 27)).alloc (.cells #[.int .i64 2, .int .i64 4] 3)) 3 1 2 ([(1 : Int), 1].map iC) #[.int .i64 1, .int .i64 1] rfl rfl (rows_of iC_len _) (by decide) _ (by simp))
    unfold aliasV at C3
    have C3 := Lib.hid C3
    have hx2 : (v2.alloc (.cells #[.int .i64 4, .slice (some ⟨O2, 0, none⟩) 2 2, .slice (some ⟨R2, 0, none⟩) 2 2] 27)).heap[v2.heap.size]? = some (.cells #[.int .i64 4, .slice (some ⟨O2, 0, none⟩) 2 2, .slice (some ⟨R2, 0, none⟩) 2 2] 27 (0, 0)) := (MapKept.heap_alloc v2 _).1
    obtain ⟨⟨k0, k1, k2⟩, _, _, _⟩ := alias_cells hx2
    have HX3 := Lib.hid (kept_blk hbc (kept_blk hb2 HX1.out))
    have HB3 := Lib.hid (below_on (below_on HB1.out hb2) hbc)
    clear C2 hM2 hb2 hbc hx2 HX1 HB1
    go_wp2_with fail
    refine C3.out.mono ?_
    rintro e v3 ⟨rfl, hb3⟩
    have HX4 := Lib.hid (kept_blk hb3 HX3.out)
    have HB4 := Lib.hid (below_on HB3.out hb3)
    have HT4 := Lib.hid (HT.out.below HB4.out)
    clear C3 hb3 HX3 HB3 k0 k1 k2
    go_wp2_with fail
    refine (HW.out _ HT4.out).mono ?_
    rintro e v4 ⟨rfl, hw⟩
    have hw := hw.symm
    subst hw
    obtain ⟨⟨c0, c1, c2⟩, _, _, _⟩ := alias_cells HX4.out
    go_wp2_with fail
    refine (HS.out _).mono ?_
    rintro e v5 ⟨rfl, hb5⟩
    go_wp2
    go_ret
    exact ⟨rfl, below_on HB4.out hb5⟩

set_option maxRecDepth 100000 in
theorem lifted (os : Os) (started : os.Started) (H : Type) (enc : TypeId × Value → H) :
    ReturnsInHanded {} Try.checked os 4 .any (Rows.aliasSaysSpec.pre6 enc Try.prog Try.f4 Rows.aliasSaysRow.domain false) (Rows.aliasSaysSpec.post enc Try.prog Try.f4 false true false false) := by
  refine returnsInHanded_of_change_sized (C := Try.checked) own started (by kernel_rfl) Try.func4
    (ChangeSpec.witness6 (enc := enc) (C := Try.checked) false ⟨#[], #[.slice none 0 0], []⟩ 8 (by kernel_rfl) (by kernel_rfl) (by kernel_rfl) (by kernel_rfl)) ?_
  intro W base args ds gs before hval0 hW hcnd hsz0 _
  have hval : ∀ (j : Nat) t v, Try.f4.params[j]? = some t → args[j]? = some v → Value.okWide Try.prog W .any base t v := hval0
  have hW' := hW
  obtain ⟨p, q, hA0, hV, rfl, hfz, hnd⟩ := hW
  have hA : DataW.TrodAll enc Try.prog W 0 (fun _ => true) true Try.f4.params.toList args.toList ds p := hA0
  have hsz : (DataW.weightsEach Try.prog (Try.f4.params.toList ++ Rows.aliasSaysSpec.plain.varTypes Try.prog) (ds ++ gs)).all (· ≤ reachBytes) = true := hsz0
  rw [Try.params4] at hA hval hsz
  obtain ⟨v0, vs0, d0, ds0, p0, q0, hargs, rfl, rfl, h0, r0⟩ := trodAll_cons hA
  obtain ⟨rfl, rfl, rfl⟩ := trodAll_nil r0
  obtain rfl : args = #[v0] := by cases args; simp_all
  obtain ⟨rfl, rfl⟩ := trodVars_none hV
  have k0 := h0
  have L0 := light_of hsz (j := 0) (t := 22) (d := d0) rfl rfl
  have lt0 : ∀ x ∈ p0, x.block < W.heap.size := by obtain ⟨m, hm⟩ := k0; exact DataW.trod_lt m _ _ _ hm
  obtain ⟨a0, len0, cap0, rfl⟩ := okWide_slice Try.underlying22 (hval 0 22 v0 rfl rfl)
  obtain ⟨n0, f0⟩ := trod_slice_of Try.underlying22 h0
  have F0 := And.intro f0 L0
  obtain ⟨x0, e0, t0, b0, o0⟩ := el_slice (w := W) (k := 1) iC wfI (by decide) Try.underlying22 (by kernel_rfl) (el_int Try.underlying3) (B := 8) (by kernel_rfl) _ _ _ F0.1 F0.2
  simp only [slC, List.cons.injEq, Value.slice.injEq, and_true] at e0
  obtain ⟨rfl, rfl, rfl⟩ := e0
  clear hA0 hval0
  refine (walk x0 W t0 b0 o0).mono fun e W' ⟨he, hg⟩ => ?_
  subst he
  exact ⟨_, rfl, _, _, _, [], _, [], hW', trodAll_mk1 (shut_bool Try.underlying4 _), (trodAll_cons_mk (Below.trod laidOut (by kernel_rfl) (of_decide_eq_true (by kernel_rfl)) k0 hg lt0) trodAll_mk0), rfl, hg.frame _, fun h => by cases h⟩

theorem over : Rows.aliasSaysRow.holds Try.pinned (OpenSpec.ofChange Rows.aliasSaysSpec) :=
  OpenClaim.holds_of_wide 4 Try.f4 rfl rfl rfl rfl rfl rfl rfl ⟨rfl, rfl, rfl, rfl, rfl⟩ rfl rfl rfl rfl rfl (by kernel_rfl) Try.func4 (by kernel_rfl)
    (of_decide_eq_true (by kernel_rfl)) (by unfold Func.isWrapper; first | (rw [if_pos (by decide +kernel)]; kernel_rfl) | (rw [if_neg (by decide +kernel)]; exact ⟨rfl, rfl⟩))
    (fun os started H enc _ => lifted os started H enc)

/-- ████ THE STATEMENT ████ -/
theorem proved : Rows.AliasSaysSaid :=
  over
#print axioms proved
end Go.Proofs.Yteddoccgbebbeab.aliasSays
