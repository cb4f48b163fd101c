/-
  'Rows.StateOrderSaid' is proved: Mark does not depend on the order of the pairs. No condition.
-/
import Derived.Test.YtelehdnjioocmaaRows
import Derived.Test.YtelehdnjioocmaaShapes
import Derived.Test.YtelehdnjioocmaaStateMark
import Derived.Test.YtelehdnjioocmaaPairsLit
import Derived.Test.YtelehdnjioocmaaConcatPairs
import Derived.Test.YtelehdnjioocmaaSubSlice
import Derived.Test.YtelehdnjioocmaaWithin
import Derived.Deep.DeepCutAuto
import Derived.Deep.RegionWith
import Derived.WalkKit
import Derived.ProofKit
import Derived.OpenShut
import Derived.ShutString
import Derived.ChangeOld
import Derived.Below
namespace Go.Proofs.Ytelehdnjioocmaa.stateOrder
open Go.ChangeShapes Go.WideShapes Go.ChangeAt Go.RowKit
open Go.ChangeMaps (open_string shut_string)
set_option linter.unusedVariables false

theorem own : ownKnob Try.prog.godebug = none := by kernel_rfl
theorem laidOut : laidOutB Try.prog = true := by kernel_rfl

open StateMath
theorem lit_mark : markOf [(⟨#[97]⟩, ⟨#[49]⟩), (⟨#[114, 118]⟩, ⟨#[48, 48, 48, 48, 48, 48, 48, 48, 48, 48, 48, 48, 48, 57]⟩)] = (⟨0, 9, false, true⟩, 0) := by rfl
theorem rot_perm (L : List Pr) (T : Nat) : L.Perm (L.drop T ++ L.take T) := by
  have h := List.perm_append_comm (l₁ := L.take T) (l₂ := L.drop T)
  rw [List.take_append_drop] at h
  exact h
theorem size_pair (w : World) : (sizeOf 38).run Try.prog w = .ok 2 w := by kernel_rfl
theorem elem_pair : Try.prog.elem 32 = 38 := by kernel_rfl
theorem tab_slots (W : World) (b : Nat) (hb : b < W.heap.size) (S : List (Sl (ByteArray × ByteArray))) (x y : Sl (ByteArray × ByteArray)) (hS : S = [x, y]) (h0 : W.cell? ⟨b, 0, none⟩ = some (.slice x.a x.len x.cap)) (h1 : W.cell? ⟨b, 1, none⟩ = some (.slice y.a y.len y.cap)) :
    Tab W (some ⟨b, 0, none⟩) 2 2 1 (S.map slC) := by
  subst hS
  refine ⟨rfl, Nat.le_refl _, by decide, (fun h => by cases h), fun _ => ⟨b, 0, rfl, hb, ?_⟩⟩
  intro i r hr j u hu
  match i, hr with
  | 0, hr =>
    simp [slC] at hr
    subst hr
    match j, hu with
    | 0, hu => simp at hu; subst hu; exact h0
    | j + 1, hu => simp at hu
  | 1, hr =>
    simp [slC] at hr
    subst hr
    match j, hu with
    | 0, hu => simp at hu; subst hu; exact h1
    | j + 1, hu => simp at hu
  | i + 2, hr => simp at hr
/-- the zero mark that the law lays, behind one call or two -/
theorem zero2 {v v9 : World} (h : Below (v.alloc (.cells #[.int .i64 0, .int .i64 0, .bool false, .bool false] 34)).heap.size (v.alloc (.cells #[.int .i64 0, .int .i64 0, .bool false, .bool false] 34)) v9) : v9.heap[v.heap.size]? = some (.cells (mkC Mk.zero) 34 (0, 0)) := heap_new _ _ _ h
theorem zero0 {v v8 v9 : World} {o : Obj} (h : Below ((v.alloc (.cells #[.int .i64 0, .int .i64 0, .bool false, .bool false] 34)).alloc o).drew.heap.size ((v.alloc (.cells #[.int .i64 0, .int .i64 0, .bool false, .bool false] 34)).alloc o).drew v8) (h9 : Below v8.heap.size v8 v9) : v9.heap[v.heap.size]? = some (.cells (mkC Mk.zero) 34 (0, 0)) := by
  have h0 : Below (v.alloc (.cells #[.int .i64 0, .int .i64 0, .bool false, .bool false] 34)).heap.size (v.alloc (.cells #[.int .i64 0, .int .i64 0, .bool false, .bool false] 34)) v8 := below_on (((Below.refl _ _).alloc (Nat.le_refl _) o).drew) h
  have h1 : v8.heap[v.heap.size]? = some (.cells (mkC Mk.zero) 34 (0, 0)) := heap_new _ _ _ h0
  exact (h9.block _ (Array.getElem?_eq_some_iff.1 h1).1).trans h1
theorem zero1 {v v8 v9 : World} {o : Obj} (h : Below ((v.alloc o).alloc (.cells #[.int .i64 0, .int .i64 0, .bool false, .bool false] 34)).drew.heap.size ((v.alloc o).alloc (.cells #[.int .i64 0, .int .i64 0, .bool false, .bool false] 34)).drew v8) (h9 : Below v8.heap.size v8 v9) : v9.heap[v.heap.size + 1]? = some (.cells (mkC Mk.zero) 34 (0, 0)) := by
  have h1 : v8.heap[(v.alloc o).heap.size]? = some (.cells (mkC Mk.zero) 34 (0, 0)) := heap_new (v.alloc o) v8 (.cells (mkC Mk.zero) 34) ⟨h.os, h.tape, h.output, h.size, h.block⟩
  have e : (v.alloc o).heap.size = v.heap.size + 1 := by simp
  rw [e] at h1
  exact (h9.block _ (Array.getElem?_eq_some_iff.1 h1).1).trans h1
theorem four_other {w : World} {b c : Nat} (h : c ≠ b) (x0 x1 x2 x3 : Value) : ((((w.setCell ⟨b, 0, none⟩ x0).setCell ⟨b, 1, none⟩ x1).setCell ⟨b, 2, none⟩ x2).setCell ⟨b, 3, none⟩ x3).heap[c]? = w.heap[c]? := by
  rw [Below.heap_setCell _ _ _ _ h, Below.heap_setCell _ _ _ _ h, Below.heap_setCell _ _ _ _ h, Below.heap_setCell _ _ _ _ h]
theorem four_below {w0 w : World} {B b : Nat} (h : Below B w0 w) (hb : B ≤ b) (x0 x1 x2 x3 : Value) : Below B w0 ((((w.setCell ⟨b, 0, none⟩ x0).setCell ⟨b, 1, none⟩ x1).setCell ⟨b, 2, none⟩ x2).setCell ⟨b, 3, none⟩ x3) :=
  (((h.setCell hb _).setCell hb _).setCell hb _).setCell hb _
set_option maxRecDepth 100000 in
theorem concat_rot (a : Option Addr) (len cap : Nat) (L : List Pr) (T : Nat) (hT : T ≤ len) (h40 : len ≤ 40) (V : World) (h : Tab V a len cap 2 (L.map ssC)) (W : World) (b : Nat) (hb : Below V.heap.size V W) (hlt : b < W.heap.size)
    (h0 : W.cell? ⟨b, 0, none⟩ = some (.slice (fromA a cap T 2) (len - T) (cap - T))) (h1 : W.cell? ⟨b, 1, none⟩ = some (.slice a T cap)) :
    Calls Try.prog 27 #[.slice (some ⟨b, 0, none⟩) 2 2] W (RetRows W 38 2 ((L.drop T ++ L.take T).map ssC)) := by
  have hx := h.below hb
  have C := concat_pairs (some ⟨b, 0, none⟩) 2 2 [⟨fromA a cap T 2, len - T, cap - T, L.drop T⟩, ⟨a, T, cap, L.take T⟩] W
    (tab_slots W b hlt _ ⟨fromA a cap T 2, len - T, cap - T, L.drop T⟩ ⟨a, T, cap, L.take T⟩ rfl h0 h1)
    (by
      intro s hs
      rcases List.mem_cons.1 hs with rfl | hs
      · have := hx.from_ T hT
        rw [← List.map_drop] at this
        exact this
      · obtain rfl := List.mem_singleton.1 hs
        have := hx.upto_ T hT
        rw [← List.map_take] at this
        exact this)
    (by simp; omega)
  have e : ([(⟨fromA a cap T 2, len - T, cap - T, L.drop T⟩ : Sl (ByteArray × ByteArray)), ⟨a, T, cap, L.take T⟩].flatMap (·.l)) = L.drop T ++ L.take T := by simp
  rw [e] at C
  exact C

set_option maxRecDepth 100000 in
set_option maxHeartbeats 2000000 in
theorem walk (x0 : Sl (ByteArray × ByteArray)) (x1 : Int) (w : World) (t0 : Tab w x0.a x0.len x0.cap 2 (x0.l.map ssC)) (b0 : x0.len * 32 ≤ 140737488351232) (o0 : ∀ z ∈ x0.l, wfSS z) (w1 : (Lit.int .i64 x1).wf = true) :
    Calls Try.prog 9 #[.slice x0.a x0.len x0.cap, .int .i64 x1] w fun e w' => e = .returned (.bool true) ∧ Below w.heap.size w w' := by
  obtain ⟨a, len, cap, L⟩ := x0
  have bT := wf_i64 w1
  have hok : ∀ p ∈ L, p.1.size ≤ maxLen ∧ p.2.size ≤ maxLen := fun p hp => by have := o0 p hp; unfold wfSS at this; unfold maxLen; omega
  have hmx := t0.hmax
  have hle := t0.hle
  unfold maxLen at hmx
  have HT := Lib.hid t0
  have HO := Lib.hid hok
  have b0' : len * 32 ≤ 140737488351232 := b0
  clear t0 o0 hok b0
  have C1x := mark_any (some ⟨w.heap.size, 0, none⟩) 2 2 [(⟨#[97]⟩, ⟨#[49]⟩), (⟨#[114, 118]⟩, ⟨#[48, 48, 48, 48, 48, 48, 48, 48, 48, 48, 48, 48, 48, 57]⟩)] (w.alloc (.cells #[.string ⟨#[97]⟩, .string ⟨#[49]⟩, .string ⟨#[114, 118]⟩, .string ⟨#[48, 48, 48, 48, 48, 48, 48, 48, 48, 48, 48, 48, 48, 57]⟩] 38))
    (tab_lit _ _ 2 2 ([((⟨#[97]⟩ : ByteArray), (⟨#[49]⟩ : ByteArray)), ((⟨#[114, 118]⟩ : ByteArray), (⟨#[48, 48, 48, 48, 48, 48, 48, 48, 48, 48, 48, 48, 48, 57]⟩ : ByteArray))].map ssC) #[.string ⟨#[97]⟩, .string ⟨#[49]⟩, .string ⟨#[114, 118]⟩, .string ⟨#[48, 48, 48, 48, 48, 48, 48, 48, 48, 48, 48, 48, 48, 57]⟩] rfl rfl (rows_of ssC_len _) (by decide) _ rfl)
    (by intro p hp; simp at hp; rcases hp with rfl | rfl <;> decide)
  rw [lit_mark] at C1x
  have C1 := Lib.hid C1x
  clear C1x
  have q1 := fun w => neq_mark 0 9 0 9 false true false true w false (by simp)
  have hbA : Below w.heap.size w (w.alloc (.cells #[.string ⟨#[97]⟩, .string ⟨#[49]⟩, .string ⟨#[114, 118]⟩, .string ⟨#[48, 48, 48, 48, 48, 48, 48, 48, 48, 48, 48, 48, 48, 57]⟩] 38)) := (Below.refl _ _).alloc (Nat.le_refl _) _
  go_enter Try.func9, Try.ntmps9
  go_wp2_with fail
  refine C1.out.mono ?_
  rintro e v1 ⟨rfl, hb1⟩
  have HB1 := Lib.hid (below_on hbA hb1)
  clear C1 hbA hb1
  have hbB : Below v1.heap.size v1 (v1.alloc (.cells (mkC ⟨0, 9, false, true⟩) 34)) := (Below.refl _ _).alloc (Nat.le_refl _) _
  have HB2 := Lib.hid (below_on HB1.out hbB)
  have C2x := mark_any a len cap L (v1.alloc (.cells (mkC ⟨0, 9, false, true⟩) 34)) (HT.out.below HB2.out) HO.out
  obtain ⟨⟨mt, mr, mh, mk⟩, me, hmk⟩ : ∃ (m : Mk) (e : Int), markOf L = (m, e) := ⟨(markOf L).1, (markOf L).2, rfl⟩
  rw [hmk] at C2x
  have HMk := Lib.hid hmk
  have C2 := Lib.hid C2x
  clear hbB C2x hmk
  unfold markV mkC
  go_wp2_with fail
  refine C2.out.mono ?_
  rintro e v3 ⟨rfl, hb3⟩
  clear C2 q1
  have HM3 := Lib.hid (heap_new _ _ _ hb3)
  obtain ⟨c0, c1, c2, c3, f0, f1, f2, f3⟩ := four_of HM3.out
  have hlt3 : v1.heap.size < v3.heap.size := (Array.getElem?_eq_some_iff.1 HM3.out).1
  have hle1 := HB1.out.size
  have hs0 := HB2.out.size
  obtain ⟨W4, hW4⟩ : ∃ W, W = ((((v3.setCell { block := v1.heap.size, off := 0 } (Value.int IntKind.i64 mt)).setCell { block := v1.heap.size, off := 1 } (Value.int IntKind.i64 mr)).setCell { block := v1.heap.size, off := 2 } (Value.bool mh)).setCell { block := v1.heap.size, off := 3 } (Value.bool mk)) := ⟨_, rfl⟩
  have HM4 : Hid (W4.heap[v1.heap.size]? = some (.cells (mkC ⟨mt, mr, mh, mk⟩) 34 (0, 0))) := by rw [hW4]; exact heap_four HM3.out ⟨mt, mr, mh, mk⟩
  have HB4 : Hid (Below w.heap.size w W4) := by
    rw [hW4]
    exact Lib.hid (((((below_on HB2.out hb3).setCell hle1 _).setCell hle1 _).setCell hle1 _).setCell hle1 _)
  have C3 := Lib.hid (check_any a len cap L W4 (HT.out.below HB4.out) HO.out)
  clear HB2 HB1 hb3 HM3
  unfold markV mkC
  go_wp2_with fail
  rw [← hW4]
  refine C3.out.mono ?_
  rintro e v5 ⟨rfl, hb5⟩
  clear hW4 c0 c1 c2 c3 f0 f1 f2 f3 C3
  have hlt4 : v1.heap.size < W4.heap.size := (Array.getElem?_eq_some_iff.1 HM4.out).1
  have HM5 : Hid (v5.heap[v1.heap.size]? = some (.cells (mkC ⟨mt, mr, mh, mk⟩) 34 (0, 0))) := (hb5.block _ hlt4).trans HM4.out
  have HB5 := Lib.hid (below_on HB4.out hb5)
  clear HM4 HB4 hb5 hlt4 hlt3
  obtain ⟨c0, c1, c2, c3, f0, f1, f2, f3⟩ := four_of HM5.out
  by_cases hc : check L = 0
  · have HC := Lib.hid hc
    rw [hc]
    have h40 : len ≤ 40 := by
      have h1 := ((check_zero_iff L).1 hc).1
      have h2 := HT.out.hlen
      rw [List.length_map] at h2
      omega
    clear hc
    have dT := withI_bd x1 ((len : Int) + 1) (by omega)
    go_wp2_with fail
    refine (within_int _ _ _ bT (by omega) (by omega)).mono ?_
    rintro e v6 ⟨rfl, rfl⟩
    generalize withI x1 ((len : Int) + 1) = T at *
    obtain ⟨T, rfl⟩ := Int.eq_ofNat_of_zero_le dT.1
    have hT : T ≤ len := by omega
    clear dT
    have r1 := run_from 32 38 2 Try.underlying32 elem_pair size_pair a len cap T hT
    have r2 := run_upto 32 38 2 Try.underlying32 elem_pair size_pair a len cap T (by omega)
    have CC := Lib.hid (concat_rot a len cap L T hT h40 v5 (HT.out.below HB5.out))
    have CM := Lib.hid (fun W a8 n8 cap8 (h : Tab W a8 n8 cap8 2 ((L.drop T ++ L.take T).map ssC)) => (show Calls Try.prog 23 #[.slice a8 n8 cap8] W (fun e w' => e = .returned (markV (⟨mt, mr, mh, mk⟩, me)) ∧ Below W.heap.size W w') from by
      have := mark_any a8 n8 cap8 _ W h (fun p hp => HO.out p ((rot_perm L T).mem_iff.2 hp))
      rw [← markOf_perm (rot_perm L T) HC.out, HMk.out] at this
      exact this))
    unfold markV mkC at CM
    have hs5 := HB5.out.size
    have hlt5 : v1.heap.size < v5.heap.size := (Array.getElem?_eq_some_iff.1 HM5.out).1
    have HLN : Hid (((L.drop T ++ L.take T).map ssC).length = len) := by
      have h2 := HT.out.hlen
      rw [List.length_map] at h2
      refine Lib.hid ?_
      rw [List.length_map, List.length_append, List.length_drop, List.length_take]
      omega
    go_upto_region 8 with fail
    go_cut [7, 8] (fun s7 s8 wx => ∃ NB : Nat, s7 = .pointer (some ⟨NB, 0, none⟩) ∧ s8 = .int .i64 me ∧ Hid (wx.heap[NB]? = some (.cells (mkC ⟨mt, mr, mh, mk⟩) 34 (0, 0))) ∧ Hid (wx.heap[v1.heap.size]? = some (.cells (mkC ⟨mt, mr, mh, mk⟩) 34 (0, 0))) ∧ Below w.heap.size w wx)
    case first =>
      clear c0 c1 c2 c3 f0 f1 f2 f3
      go_region_with (first | (go_at_call 27; refine Calls.mono (CC.out _ _ ?_ ?_ ?_ ?_) ?_; (first | exact Below.refl _ _ | exact (Below.refl _ _).drew | exact (Below.refl _ _).alloc (Nat.le_refl _) _ | exact ((Below.refl _ _).alloc (Nat.le_refl _) _).drew | exact ((Below.refl _ _).alloc (Nat.le_refl _) _).alloc (by simp) _ | exact (((Below.refl _ _).alloc (Nat.le_refl _) _).alloc (by simp) _).drew); (simp <;> omega); simp; simp; rintro e v8 ⟨vv, rfl, hO8, hb8⟩; obtain ⟨a8, cap8, hv8, hT8⟩ := hO8.tab; rw [HLN.out] at hv8 hT8; subst hv8; have X8 := Lib.hid (below_on (w := v5) (show Below v5.heap.size v5 _ from by first | exact ((Below.refl _ _).alloc (Nat.le_refl _) _).drew | exact (((Below.refl _ _).alloc (Nat.le_refl _) _).alloc (by simp) _).drew) hb8)) | (go_at_call 23; refine Calls.mono (CM.out _ _ _ _ ?_) ?_; (first | exact hT8 | exact hT8.below (Below.refl _ _).drew | exact hT8.below ((Below.refl _ _).alloc (Nat.le_refl _) _) | exact hT8.below ((Below.refl _ _).alloc (Nat.le_refl _) _).drew); rintro e v9 ⟨rfl, hb9⟩; have X9 := Lib.hid (below_on X8.out (below_on (show Below v8.heap.size v8 _ from by first | exact Below.refl _ _ | exact (Below.refl _ _).alloc (Nat.le_refl _) _) hb9)); (first | (have HZ := Lib.hid (zero2 hb9); obtain ⟨k0, k1, k2, k3, j0, j1, j2, j3⟩ := four_of HZ.out; unfold Mk.zero at k0 k1 k2 k3) | (have HZ := Lib.hid (zero1 hb8 hb9); obtain ⟨k0, k1, k2, k3, j0, j1, j2, j3⟩ := four_of HZ.out; unfold Mk.zero at k0 k1 k2 k3) | (have HZ := Lib.hid (zero0 hb8 hb9); obtain ⟨k0, k1, k2, k3, j0, j1, j2, j3⟩ := four_of HZ.out; unfold Mk.zero at k0 k1 k2 k3) | skip)))
      all_goals have hs8 := X8.out.size
      all_goals have HM9 := (X9.out.block _ hlt5).trans HM5.out
      all_goals have HB9 := below_on HB5.out X9.out
      all_goals have hs9 := X9.out.size
      all_goals go_wp2_with fail
      all_goals go_meet
      · refine ⟨v9.heap.size, rfl, rfl, ?_, ?_, HB9.alloc (by omega) _⟩
        · exact Lib.hid (MapKept.heap_alloc v9 _).1
        · exact Lib.hid (by rw [Below.heap_alloc _ _ _ (by omega)]; exact HM9)
      · refine ⟨v8.heap.size, rfl, rfl, ?_, ?_, four_below HB9 (by omega) _ _ _ _⟩
        · exact Lib.hid (heap_four HZ.out ⟨mt, mr, mh, mk⟩)
        · exact Lib.hid ((four_other (by omega) _ _ _ _).trans HM9)
      · refine ⟨v5.heap.size + 1, rfl, rfl, ?_, ?_, four_below HB9 (by omega) _ _ _ _⟩
        · exact Lib.hid (heap_four HZ.out ⟨mt, mr, mh, mk⟩)
        · exact Lib.hid ((four_other (by omega) _ _ _ _).trans HM9)
      · refine ⟨v5.heap.size, rfl, rfl, ?_, ?_, four_below HB9 (by omega) _ _ _ _⟩
        · exact Lib.hid (heap_four HZ.out ⟨mt, mr, mh, mk⟩)
        · exact Lib.hid ((four_other (by omega) _ _ _ _).trans HM9)
    case rest =>
      obtain ⟨NB, rfl, rfl, HN, HM, hbw⟩ := hcut
      clear c0 c1 c2 c3 f0 f1 f2 f3 CC CM r1 r2
      obtain ⟨c0, c1, c2, c3, f0, f1, f2, f3⟩ := four_of HM.out
      obtain ⟨d0, d1, d2, d3, g0, g1, g2, g3⟩ := four_of HN.out
      have q3 := fun w => eql_mark mt mr mt mr mh mk mh mk w true (by simp)
      go_wp2
      go_ret
      exact ⟨rfl, hbw⟩
  · have hm := markOf_bad hc
    rw [HMk.out] at hm
    simp only [Prod.mk.injEq, Mk.zero, Mk.mk.injEq] at hm
    obtain ⟨⟨rfl, rfl, rfl, rfl⟩, rfl⟩ := hm
    have t : (check L != 0) = true := by simpa using hc
    have q2 := fun w => eql_mark 0 0 0 0 false false false false w true (by simp)
    generalize check L = c at *
    go_wp2
    go_ret
    exact ⟨rfl, HB5.out⟩

set_option maxRecDepth 100000 in
theorem lifted (os : Os) (started : os.Started) (H : Type) (enc : TypeId × Value → H) :
    ReturnsInHanded {} Try.checked os 9 .any (Rows.stateOrderSpec.pre6 enc Try.prog Try.f9 Rows.stateOrderRow.domain false) (Rows.stateOrderSpec.post enc Try.prog Try.f9 false true false false) := by
  refine returnsInHanded_of_change_sized (C := Try.checked) own started (by kernel_rfl) Try.func9
    (ChangeSpec.witness6 (enc := enc) (C := Try.checked) false ⟨#[], #[.slice none 0 0, .int .i64 0], []⟩ 8 (by kernel_rfl) (by kernel_rfl) (by kernel_rfl) (by kernel_rfl)) ?_
  intro W base args ds gs before hval0 hW hcnd hsz0 _
  have hval : ∀ (j : Nat) t v, Try.f9.params[j]? = some t → args[j]? = some v → Value.okWide Try.prog W .any base t v := hval0
  have hW' := hW
  obtain ⟨p, q, hA0, hV, rfl, hfz, hnd⟩ := hW
  have hA : DataW.TrodAll enc Try.prog W 0 (fun _ => true) true Try.f9.params.toList args.toList ds p := hA0
  have hsz : (DataW.weightsEach Try.prog (Try.f9.params.toList ++ Rows.stateOrderSpec.plain.varTypes Try.prog) (ds ++ gs)).all (· ≤ reachBytes) = true := hsz0
  rw [Try.params9] at hA hval hsz
  obtain ⟨v0, vs0, d0, ds0, p0, q0, hargs, rfl, rfl, h0, r0⟩ := trodAll_cons hA
  obtain ⟨v1, vs1, d1, ds1, p1, q1, rfl, rfl, rfl, h1, r1⟩ := trodAll_cons r0
  obtain ⟨rfl, rfl, rfl⟩ := trodAll_nil r1
  obtain rfl : args = #[v0, v1] := by cases args; simp_all
  obtain ⟨rfl, rfl⟩ := trodVars_none hV
  have k0 := h0
  have L0 := light_of hsz (j := 0) (t := 32) (d := d0) rfl rfl
  have lt0 : ∀ x ∈ p0, x.block < W.heap.size := by obtain ⟨m, hm⟩ := k0; exact DataW.trod_lt m _ _ _ hm
  obtain ⟨a0, len0, cap0, rfl⟩ := okWide_slice Try.underlying32 (hval 0 32 v0 rfl rfl)
  obtain ⟨n0, f0⟩ := trod_slice_of Try.underlying32 h0
  have F0 := And.intro f0 L0
  obtain ⟨x0, e0, t0, b0, o0⟩ := el_slice (w := W) (k := 2) ssC wfSS (by decide) Try.underlying32 (by kernel_rfl) (el_ss Try.underlying38 (by kernel_rfl) (by kernel_rfl) Try.underlying9 Try.underlying9) (B := 32) (by kernel_rfl) _ _ _ F0.1 F0.2
  simp only [slC, List.cons.injEq, Value.slice.injEq, and_true] at e0
  obtain ⟨rfl, rfl, rfl⟩ := e0
  have k1 := h1
  have L1 := light_of hsz (j := 1) (t := 3) (d := d1) rfl rfl
  have lt1 : ∀ x ∈ p1, x.block < W.heap.size := by obtain ⟨m, hm⟩ := k1; exact DataW.trod_lt m _ _ _ hm
  obtain ⟨x1, rfl, rfl, rfl, w1⟩ := open_int Try.underlying3 (hval 1 3 v1 rfl rfl) h1
  clear hA0 hval0
  refine (walk x0 x1 W t0 b0 o0 w1).mono fun e W' ⟨he, hg⟩ => ?_
  subst he
  exact ⟨_, rfl, _, _, _, [], _, [], hW', trodAll_mk1 (shut_bool Try.underlying4 _), (trodAll_cons_mk (Below.trod laidOut (by kernel_rfl) (of_decide_eq_true (by kernel_rfl)) k0 hg lt0) (trodAll_cons_mk (Below.trod laidOut (by kernel_rfl) (of_decide_eq_true (by kernel_rfl)) k1 hg lt1) trodAll_mk0)), rfl, hg.frame _, fun h => by cases h⟩

theorem over : Rows.stateOrderRow.holds Try.pinned (OpenSpec.ofChange Rows.stateOrderSpec) :=
  OpenClaim.holds_of_wide 9 Try.f9 rfl rfl rfl rfl rfl rfl rfl ⟨rfl, rfl, rfl, rfl, rfl⟩ rfl rfl rfl rfl rfl (by kernel_rfl) Try.func9 (by kernel_rfl)
    (of_decide_eq_true (by kernel_rfl)) (by unfold Func.isWrapper; first | (rw [if_pos (by decide +kernel)]; kernel_rfl) | (rw [if_neg (by decide +kernel)]; exact ⟨rfl, rfl⟩))
    (fun os started H enc _ => lifted os started H enc)

/-- ████ THE STATEMENT ████ -/
theorem proved : Rows.StateOrderSaid :=
  over
#print axioms proved
end Go.Proofs.Ytelehdnjioocmaa.stateOrder
