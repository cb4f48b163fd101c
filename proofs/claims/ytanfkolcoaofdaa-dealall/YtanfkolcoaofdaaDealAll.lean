/-
  'Rows.DealAllSaid' is proved: by all draws each order comes just once. No condition.
  The frame of this proof was written by the kit's proof-skeleton.mjs.
-/
import Derived.Test.YtanfkolcoaofdaaRows
import Derived.Test.YtanfkolcoaofdaaWithin
import Derived.Test.YtanfkolcoaofdaaDigitDeal
import Derived.Test.YtanfkolcoaofdaaAllEach
import Derived.Test.YtanfkolcoaofdaaAllGrow
import Derived.Test.YtanfkolcoaofdaaRefFact
import Derived.Test.YtanfkolcoaofdaaEqualInts
import Derived.Test.YtanfkolcoaofdaaLit
import Derived.Deep.LoopGhost
import Derived.Deep.QuietTactic
import Derived.BigQuiet
import Derived.Deep.RegionWith
import Derived.WalkKit
import Derived.ProofKit
import Derived.ChangeOld
import Derived.Below
import Derived.OpenShut
import Derived.ShutString
namespace Go.Proofs.Ytanfkolcoaofdaa.dealAll
open Go.ChangeShapes Go.WideShapes Go.ChangeAt Go.RowKit
open Go.ChangeMaps (open_string shut_string)
set_option linter.unusedVariables false      -- a walk need not use every 'w<i>' (that an integer argument fits its kind)

theorem own : ownKnob Try.prog.godebug = none := by kernel_rfl

open Digit
theorem all_start : dealTo [7, 8, 9] [0, 0, 1] 3 = [8, 9, 7] := by decide +kernel
theorem wrap_next {k : Nat} (h : k < 7) : IntKind.i64.wrap ((k : Int) + 1) = (k : Int) + 1 := by
  have : k = 0 ∨ k = 1 ∨ k = 2 ∨ k = 3 ∨ k = 4 ∨ k = 5 ∨ k = 6 := by omega
  rcases this with rfl | rfl | rfl | rfl | rfl | rfl | rfl <;> decide
theorem lit_new (W : World) (z : Int) (t : TypeId) : ∀ j u, [[Value.int .i64 z]].flatten[j]? = some u → (W.alloc (.cells #[.int .i64 z] t)).cell? ((⟨W.heap.size, 0, none⟩ : Addr).add j) = some u := one_row W [.int .i64 z] t _ rfl
theorem lit_old (W : World) (z : Int) (t : TypeId) (o : Obj) : ∀ j u, [[Value.int .i64 z]].flatten[j]? = some u → ((W.alloc (.cells #[.int .i64 z] t)).alloc o).cell? ((⟨W.heap.size, 0, none⟩ : Addr).add j) = some u := fun j u hj =>
  ((((Below.refl (W.alloc (.cells #[.int .i64 z] t)).heap.size (W.alloc (.cells #[.int .i64 z] t))).alloc (Nat.le_refl _) o).cell (by rw [addr_add]; simp))).trans (lit_new W z t j u hj)
theorem lit_two (W : World) (z : Int) (t : TypeId) (o : Obj) : ∀ j u, [[Value.int .i64 z]].flatten[j]? = some u → ((W.alloc o).alloc (.cells #[.int .i64 z] t)).cell? ((⟨W.heap.size + 1, 0, none⟩ : Addr).add j) = some u := by
  have h := lit_new (W.alloc o) z t
  rwa [show (W.alloc o).heap.size = W.heap.size + 1 from by simp] at h
theorem all_draws : DrawsOk [0, 0, 1] := drawsB_ok.1 (by decide)

/-! ### STEP 1: THE WALK: the Go text returns true. 'Grown w w'': the world has at most new blocks (Derived/RowKit3.lean). Part the cases AHEAD of 'go_enter' where a test parts the walk; take each callee by a contract of your own. -/
set_option maxRecDepth 100000 in
set_option maxHeartbeats 2000000 in
theorem walk (a0 : Int) (w0 : (Lit.int .i64 a0).wf = true) (w : World) :
    Calls Try.prog 7 #[.int .i64 a0] w fun e w' => e = .returned (.bool true) ∧ Below w.heap.size w w' := by
  have b0 := wf_i64 w0
  have d0 := withI_bd a0 7 (by omega)
  have C0 := deal_ok (some ⟨w.heap.size, 0, none⟩) (some ⟨w.heap.size + 1, 0, none⟩) 3 3 3 3 [7, 8, 9] [0, 0, 1] ((w.alloc (.cells #[.int .i64 7, .int .i64 8, .int .i64 9] 3)).alloc (.cells #[.int .i64 0, .int .i64 0, .int .i64 1] 3))
    ((tab_lit w 3 1 3 ([(7 : Int), 8, 9].map iC) #[.int .i64 7, .int .i64 8, .int .i64 9] rfl rfl (rows_of iC_len _) (by decide) _ rfl).below ((Below.refl _ _).alloc (Nat.le_refl _) _)) (tab_lit _ 3 1 3 ([(0 : Int), 0, 1].map iC) #[.int .i64 0, .int .i64 0, .int .i64 1] rfl rfl (rows_of iC_len _) (by decide) _ (by simp)) (by decide) rfl all_draws
  rw [show ([7, 8, 9] : List Int).length = 3 from rfl, all_start] at C0
  have C0 := Lib.hid C0
  go_enter Try.func7, Try.ntmps7
  go_wp2_with fail
  refine C0.out.mono ?_
  rintro e v1 ⟨s1, rfl, hO1, hb1⟩
  clear C0
  obtain ⟨a1', cap1, rfl, hT1⟩ := hO1.tab
  have E1 := Lib.hid (equal_ints a1' (some ⟨v1.heap.size, 0, none⟩) 3 cap1 3 3 [8, 9, 7] [8, 9, 7] (v1.alloc (.cells #[.int .i64 8, .int .i64 9, .int .i64 7] 3))
    (hT1.below ((Below.refl _ _).alloc (Nat.le_refl _) _)) (tab_lit _ _ 1 3 ([(8 : Int), 9, 7].map iC) #[.int .i64 8, .int .i64 9, .int .i64 7] rfl rfl (rows_of iC_len _) (by decide) _ rfl) true (by simp))
  have hb0 : Below w.heap.size w ((w.alloc (.cells #[.int .i64 7, .int .i64 8, .int .i64 9] 3)).alloc (.cells #[.int .i64 0, .int .i64 0, .int .i64 1] 3)) := ((Below.refl _ _).alloc (Nat.le_refl _) _).alloc (by simp) _
  have HB1 := Lib.hid (below_on (below_on hb0 hb1) ((Below.refl v1.heap.size v1).alloc (Nat.le_refl _) (.cells #[.int .i64 8, .int .i64 9, .int .i64 7] 3)))
  clear hO1 hT1 hb1 hb0
  go_wp2_with fail
  refine E1.out.mono ?_
  rintro e v2 ⟨rfl, hb2⟩
  have HB2 := Lib.hid (below_on HB1.out hb2)
  clear E1 HB1 hb2
  go_wp2_with fail
  refine (within_int _ _ _ b0 (by omega) (by omega)).mono ?_
  rintro e v3 ⟨rfl, rfl⟩
  generalize withI a0 7 = n' at *
  obtain ⟨n, rfl⟩ := Int.eq_ofNat_of_zero_le d0.1
  have hn : n < 7 := by omega
  clear d0
  obtain ⟨c, hc⟩ : ∃ c, c = v2.heap.size := ⟨_, rfl⟩
  have HT0 : Hid (Two 3 22 c (.slice none 0 0) v2 (v2.alloc (.cells #[.slice none 0 0] 22)) (.slice none 0 0) (.slice none 0 0) [] []) := by
    subst hc
    exact Lib.hid ⟨(MapKept.heap_alloc v2 _).1, Own.nil _ _ _ _, Own.nil _ _ _ _, apart_nil _, (Below.refl _ _).alloc (Nat.le_refl _) _⟩
  have HC := Lib.hid hc
  go_wp2_with fail
  rw [← hc]
  clear hc
  go_loopg [5, 26] n (fun g s i wr => ∃ (k : Nat) (vr : Value), k + g = n ∧ i = .int .i64 (k : Nat) ∧ Hid (Two 3 22 c vr v2 wr s vr (bndOf k) (rowOf k)))
  case atStart => exact ⟨0, _, by omega, rfl, HT0⟩
  case round =>
    clear HT0
    obtain ⟨k, vr, hk0, rfl, HT⟩ := hrel
    have HJ := Lib.hid hk0
    have hk : k ≤ n := by omega
    clear hk0
    have cR := cell_of_one HT.out.cell
    have fR := free_of_one HT.out.cell
    by_cases hlt : k < n
    · have hl1 : (bndOf k).length ≤ 10 := by rw [bndOf_len]; omega
      have hl2 : (rowOf k).length ≤ 10 := by rw [rowOf_len]; omega
      have HNE : Hid (∀ B, wr.heap.size ≤ B → some B ≠ u5.ownBlock) := Lib.hid (fun B hB e => by have := (HT.out.ob.own.lt _ e.symm).2; omega)
      have HW : Hid (IntKind.i64.wrap ((k : Int) + 1) = (k : Int) + 1) := Lib.hid (wrap_next (by omega))
      have hsc := HT.out.lt
      have cRa : (wr.alloc (.cells #[.int .i64 (IntKind.i64.wrap ((k : Int) + 1))] 3)).cell? ⟨c, 0, none⟩ = some vr := cell_of_one (HT.out.alloc _).cell
      have cRb : (wr.alloc (.cells #[.int .i64 (k : Int)] 3)).cell? ⟨c, 0, none⟩ = some vr := cell_of_one (HT.out.alloc _).cell
      have cRab : ((wr.alloc (.cells #[.int .i64 (IntKind.i64.wrap ((k : Int) + 1))] 3)).alloc (.cells #[.int .i64 (k : Int)] 3)).cell? ⟨c, 0, none⟩ = some vr := cell_of_one ((HT.out.alloc _).alloc _).cell
      have cRba : ((wr.alloc (.cells #[.int .i64 (k : Int)] 3)).alloc (.cells #[.int .i64 (IntKind.i64.wrap ((k : Int) + 1))] 3)).cell? ⟨c, 0, none⟩ = some vr := cell_of_one ((HT.out.alloc _).alloc _).cell
      go_wp2_with fail
      go_region_law (first
        | (refine step_two _ rfl _ _ 22 rfl 3 22 _ Try.underlying22 info_int rfl c vr v2 u5 vr (bndOf k) (rowOf k) (by simp [Act.eval, Act.put]) (HT.out.alloc _).drew hl1 wr.heap.size (IntKind.i64.wrap ((k : Int) + 1)) (by simp [Act.eval, Act.put]) (lit_new wr _ _) ?_; intro g4 c4 w4 hT4 hg4; have cR4 := cell_of_one hT4.cell; have fR4 := free_of_one hT4.cell; have hs4 := hT4.lt; have cR4a : (w4.alloc (.cells #[.int .i64 (k : Int)] 3)).cell? ⟨c, 0, none⟩ = some vr := cell_of_one (hT4.alloc _).cell)
        | (refine step_two _ rfl _ _ 22 rfl 3 22 _ Try.underlying22 info_int rfl c vr v2 u5 vr (bndOf k) (rowOf k) (by simp [Act.eval, Act.put]) ((HT.out.alloc _).alloc _).drew hl1 wr.heap.size (IntKind.i64.wrap ((k : Int) + 1)) (by simp [Act.eval, Act.put]) (lit_old wr _ _ _) ?_; intro g4 c4 w4 hT4 hg4; have cR4 := cell_of_one hT4.cell; have fR4 := free_of_one hT4.cell; have hs4 := hT4.lt; have cR4a : (w4.alloc (.cells #[.int .i64 (k : Int)] 3)).cell? ⟨c, 0, none⟩ = some vr := cell_of_one (hT4.alloc _).cell; have hL4 := lit_kept hg4 (lit_two wr (k : Int) 3 (.cells #[.int .i64 (IntKind.i64.wrap ((k : Int) + 1))] 3)) (by simp <;> omega) (HNE.out _ (by omega)))
        | (refine step_two _ rfl _ _ 22 rfl 3 22 _ Try.underlying22 info_int rfl c vr v2 u5 vr (bndOf k) (rowOf k) (by simp [Act.eval, Act.put]) ((HT.out.alloc _).alloc _).drew hl1 (wr.heap.size + 1) (IntKind.i64.wrap ((k : Int) + 1)) (by simp [Act.eval, Act.put]) (lit_two wr _ _ _) ?_; intro g4 c4 w4 hT4 hg4; have cR4 := cell_of_one hT4.cell; have fR4 := free_of_one hT4.cell; have hs4 := hT4.lt; have cR4a : (w4.alloc (.cells #[.int .i64 (k : Int)] 3)).cell? ⟨c, 0, none⟩ = some vr := cell_of_one (hT4.alloc _).cell; have hL4 := lit_kept hg4 (lit_old wr (k : Int) 3 (.cells #[.int .i64 (IntKind.i64.wrap ((k : Int) + 1))] 3)) (by simp <;> omega) (HNE.out _ (by omega)))
        | (refine step_two _ rfl _ _ 22 rfl 3 22 _ Try.underlying22 info_int rfl c vr v2 vr _ (rowOf k) (bndOf k ++ [IntKind.i64.wrap ((k : Int) + 1)]) (by simp [Act.eval, Act.put]) hT4.symm hl2 wr.heap.size (k : Int) (by simp [Act.eval, Act.put]) hL4 ?_; intro g8 c8 w8 hT8 hg8; have cR8 := cell_of_one hT8.cell; have fR8 := free_of_one hT8.cell)
        | (refine step_two _ rfl _ _ 22 rfl 3 22 _ Try.underlying22 info_int rfl c vr v2 vr _ (rowOf k) (bndOf k ++ [IntKind.i64.wrap ((k : Int) + 1)]) (by simp [Act.eval, Act.put]) hT4.symm hl2 (wr.heap.size + 1) (k : Int) (by simp [Act.eval, Act.put]) hL4 ?_; intro g8 c8 w8 hT8 hg8; have cR8 := cell_of_one hT8.cell; have fR8 := free_of_one hT8.cell)
        | (refine step_two _ rfl _ _ 22 rfl 3 22 _ Try.underlying22 info_int rfl c vr v2 vr _ (rowOf k) (bndOf k ++ [IntKind.i64.wrap ((k : Int) + 1)]) (by simp [Act.eval, Act.put]) (hT4.symm.alloc _) hl2 w4.heap.size (k : Int) (by simp [Act.eval, Act.put]) (lit_new w4 _ _) ?_; intro g8 c8 w8 hT8 hg8; have cR8 := cell_of_one hT8.cell; have fR8 := free_of_one hT8.cell))
      all_goals go_wp2_with fail
      all_goals go_roundg (n - (k + 1))
      all_goals first
        | (have := HJ.out; omega)
        | (have h := hT8.symm.set (.slice (some ⟨g8, 0, none⟩) ((rowOf k).length + 1) c8); rw [HW.out, ← bndOf_succ, ← rowOf_succ] at h; exact ⟨k + 1, _, by omega, by go_num, Lib.hid h⟩)
        | (have h := hT8.symm.set (.slice (some ⟨g8, 0, none⟩) ((rowOf k).length + 1) c8); rw [HW.out, ← bndOf_succ, ← rowOf_succ] at h; exact ⟨k + 1, _, by omega, by go_num, Lib.hid h.drew⟩)
    · obtain rfl : k = n := by omega
      obtain ⟨ab, capb, hub, hTb⟩ := HT.out.ob.tab
      obtain ⟨ar, capr, hvr, hTr⟩ := HT.out.ov.tab
      rw [List.length_map, bndOf_len] at hub hTb
      rw [List.length_map, rowOf_len] at hvr hTr
      subst hub hvr
      have HI : Hid (AllInv wr wr.heap.size c k 0 ar capr ((wr.alloc (.map #[] 0)).alloc (.cells #[.map (some wr.heap.size)] 42))) := by
        have hc1 : ((wr.alloc (.map #[] 0)).alloc (.cells #[.map (some wr.heap.size)] 42)).heap[wr.heap.size + 1]? = some (.cells #[.map (some wr.heap.size)] 42 (0, 0)) := by
          have := (MapKept.heap_alloc (wr.alloc (.map #[] 0)) (.cells #[.map (some wr.heap.size)] 42)).1
          rwa [show (wr.alloc (.map #[] 0)).heap.size = wr.heap.size + 1 from by simp] at this
        exact Lib.hid ⟨rfl, hTr, ((Below.refl _ _).alloc (Nat.le_refl _) _).alloc (by simp) _, HT.out.cell, hc1, (ownsKeys_made _ _ _ wr).below ((Below.refl _ _).alloc (Nat.le_refl _) _)⟩
      have C := Lib.hid (allEach_any wr wr.heap.size c k ar capr _ HI.out hn ab capb hTb)
      have F := Lib.hid (refFact_any k (by omega))
      have HBw : Hid (Below w.heap.size w wr) := by
        have h := HT.out.below
        rw [HC.out] at h
        exact Lib.hid (below_on HB2.out h)
      have hmm := @run_makeMap Try.prog
      clear hTb hTr HT cR fR HI
      go_wp2_with fail
      refine C.out.mono ?_
      rintro e v5 ⟨rfl, hI⟩
      have cM := cell_of_one hI.mcell
      have hL := fun ty => hI.keys.len Try.underlying42 ty
      rw [keysTo_len] at hL
      have HB5 := Lib.hid (below_on HBw.out hI.below)
      clear hI C
      have hfp : fact k ≤ 479001600 := fact_max (by omega)
      generalize fact k = B at *
      have t1 : ((B : Int) == (B : Int)) = true := by simp
      go_wp2_with fail
      refine (F.out _).mono ?_
      rintro e v6 ⟨rfl, rfl⟩
      go_wp2
      go_ret
      exact ⟨rfl, HB5.out⟩

/-! ### THE ROW's STEP: WRITTEN OUT: LEAVE IT -/
set_option maxRecDepth 100000 in
theorem lifted (os : Os) (started : os.Started) (H : Type) (enc : TypeId × Value → H) :
    ReturnsInHanded {} Try.checked os 7 .any (Rows.dealAllSpec.pre6 enc Try.prog Try.f7 Rows.dealAllRow.domain false) (Rows.dealAllSpec.post enc Try.prog Try.f7 false true false false) := by
  refine returnsInHanded_of_change (C := Try.checked) own started (by kernel_rfl) Try.func7
    (ChangeSpec.witness6 (enc := enc) (C := Try.checked) false ⟨#[], #[.int .i64 0], []⟩ 8 (by kernel_rfl) (by kernel_rfl) (by kernel_rfl) (by kernel_rfl)) ?_
  intro W base args ds gs before hval0 hW hcnd _
  have hval : ∀ (j : Nat) t v, Try.f7.params[j]? = some t → args[j]? = some v → Value.okWide Try.prog W .any base t v := hval0
  have hW' := hW
  obtain ⟨p, q, hA0, hV, rfl, hfz, hnd⟩ := hW
  have hA : DataW.TrodAll enc Try.prog W 0 (fun _ => true) true Try.f7.params.toList args.toList ds p := hA0
  rw [Try.params7] at hA hval
  obtain ⟨v0, vs0, d0, ds0, p0, q0, hargs, rfl, rfl, h0, r0⟩ := trodAll_cons hA
  obtain ⟨rfl, rfl, rfl⟩ := trodAll_nil r0
  obtain rfl : args = #[v0] := by cases args; simp_all
  obtain ⟨rfl, rfl⟩ := trodVars_none hV
  obtain ⟨a0, rfl, rfl, rfl, w0⟩ := open_int Try.underlying3 (hval 0 3 v0 rfl rfl) h0
  clear hA0 hval0
  simp only [List.append_nil] at hW'
  refine (walk a0 w0 W).mono fun e W' ⟨he, hg⟩ => ?_
  subst he
  exact ⟨_, rfl, _, _, _, [], _, [], hW', (trodAll_cons_mk (shut_bool Try.underlying4 _) trodAll_mk0), (trodAll_cons_mk (shut_int Try.underlying3 w0) trodAll_mk0), rfl, hg.frame _, fun h => by cases h⟩

theorem over : Rows.dealAllRow.holds Try.pinned (OpenSpec.ofChange Rows.dealAllSpec) :=
  OpenClaim.holds_of_wide 7 Try.f7 rfl rfl rfl rfl rfl rfl rfl ⟨rfl, rfl, rfl, rfl, rfl⟩ rfl rfl rfl rfl rfl (by kernel_rfl) Try.func7 (by kernel_rfl)
    (of_decide_eq_true (by kernel_rfl)) (by unfold Func.isWrapper; first | (rw [if_pos (by decide +kernel)]; kernel_rfl) | (rw [if_neg (by decide +kernel)]; exact ⟨rfl, rfl⟩))
    (fun os started H enc _ => lifted os started H enc)

/-- ████ THE STATEMENT ████ -/
theorem proved : Rows.DealAllSaid :=
  over
#print axioms proved
end Go.Proofs.Ytanfkolcoaofdaa.dealAll
