/-
  'Rows.BottomManySaid' is proved: of fewer than K distinct numbers Many tells just how many came, else no fewer than K - 1. No condition.
-/
import Derived.Test.YtfgcmlgdgmcffaaRows
import Derived.Test.YtfgcmlgdgmcffaaShapes
import Derived.Test.YtfgcmlgdgmcffaaMuchMath
import Derived.Test.YtfgcmlgdgmcffaaKeySetN
import Derived.Test.YtfgcmlgdgmcffaaWithin
import Derived.Test.YtfgcmlgdgmcffaaDraw
import Derived.Test.YtfgcmlgdgmcffaaLit
import Derived.Deep.DeepCutAuto
import Derived.WalkKit
import Derived.ProofKit
import Derived.OpenShut
import Derived.ShutString
import Derived.ChangeOld
import Derived.Below
namespace Go.Proofs.Ytfgcmlgdgmcffaa.bottomMany
open Go.ChangeShapes Go.WideShapes Go.ChangeAt Go.RowKit
open Go.ChangeMaps (open_string shut_string)
set_option linter.unusedVariables false

theorem own : ownKnob Try.prog.godebug = none := by kernel_rfl
theorem laidOut : laidOutB Try.prog = true := by kernel_rfl

open Least
theorem lit_many : bottomE 2 [1, 36028797018963968] = 0 ∧ manyR 2 [1, 36028797018963968] = 2 ∧ manyE 2 [1, 36028797018963968] = 0 := by decide +kernel
theorem i64_wf {z : Int} (h1 : -9223372036854775808 ≤ z) (h2 : z ≤ 9223372036854775807) : (Lit.int .i64 z).wf = true := by
  simp [Lit.wf, IntKind.min, IntKind.max, IntKind.bits, IntKind.signed]; omega
theorem lawI : Maps.Keyed Try.prog 3 := Maps.int_keyed Try.underlying3
theorem zeroB (w : World) : (zeroValue 4).run Try.prog w = .ok (.bool false) w := by kernel_rfl
theorem keyI (z : Int) (h : -9223372036854775808 ≤ z ∧ z ≤ 9223372036854775807) : keyOf Try.prog 3 (.int .i64 z) = some (.int .i64 z) := Maps.keyOf_int_mk (P := Try.prog) Try.underlying3 (i64_wf h.1 h.2)

set_option maxRecDepth 100000 in
set_option maxHeartbeats 2000000 in
theorem walk (x0 : Int) (x1 : Sl Int) (w : World) (w0 : (Lit.int .i64 x0).wf = true) (t1 : Tab w x1.a x1.len x1.cap 1 (x1.l.map iC)) (b1 : x1.len * 8 ≤ 140737488351232) (o1 : ∀ z ∈ x1.l, wfI z) :
    Calls Try.prog 9 #[.int .i64 x0, .slice x1.a x1.len x1.cap] w fun e w' => e = .returned (.bool true) ∧ Below w.heap.size w w' := by
  obtain ⟨a, len, cap, L⟩ := x1
  have hl := t1.hlen
  rw [List.length_map] at hl
  have hm0 := t1.hmax
  unfold maxLen at hm0
  have hm : cap ≤ 9223372036854775807 := by simpa using hm0
  have hle : len ≤ cap := t1.hle
  clear hm0
  obtain ⟨n, hn⟩ : ∃ n, min len 200 = n := ⟨_, rfl⟩
  have hl0 : L.length = len := hl
  have HTK : Hid (L.take 200 = L.take n) := Lib.hid (by
    by_cases h9 : len ≤ 200
    · rw [List.take_of_length_le (by omega), List.take_of_length_le (by omega)]
    · rw [show n = 200 from by omega])
  have hn1 : n ≤ len := by omega
  have hn2 : n ≤ 200 := by omega
  have rU := run_upto 22 3 1 Try.underlying22 elem_intB size_intB a len cap n (by omega)
  have hb0 : Below w.heap.size w (w.alloc (.cells #[.int .i64 1, .int .i64 36028797018963968] 3)) := (Below.refl _ _).alloc (Nat.le_refl _) _
  have C0 := bmany_ok 2 (some ⟨w.heap.size, 0, none⟩) 2 2 [1, 36028797018963968] _ (tab_lit w 3 1 2 ([(1 : Int), 36028797018963968].map iC) #[.int .i64 1, .int .i64 36028797018963968] rfl rfl (rows_of iC_len _) (by decide) _ rfl) lit_many.1
  rw [lit_many.2.1, lit_many.2.2] at C0
  unfold bottomV at C0
  have HC0 := Lib.hid C0
  have HB0 := Lib.hid hb0
  have d0 := withI_bd x0 40 (by omega)
  have b0 := wf_i64 w0
  have HW0 := Lib.hid (fun W => within_int x0 40 W b0 (by omega) (by omega))
  generalize withI x0 40 = K0 at *
  obtain ⟨k, hk⟩ := Int.eq_ofNat_of_zero_le (show 0 ≤ 1 + K0 by omega)
  have k1 : 1 ≤ k := by omega
  have k2 : k ≤ 40 := by omega
  have hK0 := d0.1
  have hK1 := d0.2
  have HK := Lib.hid hk
  have HF := Lib.hid (fun W (hb : Below w.heap.size w W) => filled_any k a len cap L W (t1.below hb) (fun z hz => o1 z hz) k1 k2)
  rw [HTK.out] at HF
  have HT := Lib.hid t1
  have HO := Lib.hid o1
  have HL := Lib.hid hl0
  have HLAW := Lib.hid (many_law (k := k) (l := drawsL (L.take n)) k1 draws_bd)
  have HGD : Hid (bottomE k (T k (drawsL (L.take n))) = 0) := Lib.hid (T_good k1 k2 draws_bd)
  clear t1 o1 hl hl0 C0 hb0 d0 hk b0 w0 HTK
  go_enter Try.func9, Try.ntmps9
  go_wp2_with fail
  refine HC0.out.mono ?_
  rintro e v1 ⟨rfl, hb1⟩
  have HB1 := Lib.hid (below_on HB0.out hb1)
  clear hb1 HC0 HB0
  go_wp2_with fail
  refine (HW0.out _).mono ?_
  rintro e v2 ⟨rfl, hv2⟩
  rw [← hv2]
  clear hv2 HW0
  go_upto_region 5 with fail
  rw [HK.out]
  go_wp2_with fail
  refine (HF.out _ HB1.out).mono ?_
  rintro e v3 ⟨v, rfl, hO3, hb3⟩
  obtain ⟨av, cv, rfl, hTv⟩ := hO3.tab
  rw [List.length_map] at hTv ⊢
  have hba : Below v3.heap.size v3 (v3.alloc (.cells #[.int .i64 k, .slice av (T k (drawsL (L.take n))).length cv] 29)) := (Below.refl _ _).alloc (Nat.le_refl _) _
  have C4 := bmany_ok k av _ cv (T k (drawsL (L.take n))) _ (hTv.below hba) HGD.out
  unfold bottomV at C4
  have HC4 := Lib.hid C4
  have HB3 := Lib.hid (below_on (below_on HB1.out hb3) hba)
  obtain ⟨⟨c0, c1⟩, _, _⟩ := two_cells (MapKept.heap_alloc v3 (.cells #[.int .i64 k, .slice av (T k (drawsL (L.take n))).length cv] 29)).1
  clear hO3 hTv hb3 hba C4 HF HB1
  go_wp2_with fail
  refine HC4.out.mono ?_
  rintro e v4 ⟨rfl, hb4⟩
  have HB4 := Lib.hid (below_on HB3.out hb4)
  clear hb4 HC4 HB3 c0 c1
  have hmm := @run_makeMap Try.prog
  go_upto_region 8 with fail
  clear hmm
  go_cut [45, 46, 47] (fun s t i wx => s = .slice a n cap ∧ t = .int .i64 n ∧ i = .int .i64 0 ∧ wx = v4.alloc (.map #[] 0))
  case first =>
    by_cases h9 : len ≤ 200
    · obtain rfl : n = len := by omega
      clear hn
      go_wp2_with fail
      go_meet
      case rel => exact ⟨congrArg (fun t => Value.slice a t cap) (by omega), congrArg (Value.int IntKind.i64) (by omega), rfl, rfl⟩
    · obtain rfl : n = 200 := by omega
      have h9' : 200 < len := by omega
      clear hn h9
      go_wp2_with fail
      go_meet
      case rel => exact ⟨congrArg (fun t => Value.slice a t cap) (by omega), congrArg (Value.int IntKind.i64) (by omega), rfl, rfl⟩
  case rest =>
  obtain ⟨rfl, rfl, rfl, hwc⟩ := hcut
  have HM0 := Lib.hid (ownsKeysN_made Try.prog 3 4 v4)
  have HBM : Hid (Below v4.heap.size v4 (v4.alloc (.map #[] 0))) := Lib.hid ((Below.refl _ _).alloc (Nat.le_refl _) _)
  rw [← hwc] at HM0 HBM
  clear hwc rU hn
  obtain ⟨R, hR⟩ : ∃ R, manyR k (T k (drawsL (L.take n))) = R := ⟨_, rfl⟩
  obtain ⟨E, hE⟩ : ∃ E, manyE k (T k (drawsL (L.take n))) = E := ⟨_, rfl⟩
  rw [hR, hE] at HLAW
  rw [hR, hE]
  clear hR hE HGD
  go_wp2_with fail
  go_loopg [47] n (fun g i wr => ∃ (t : Nat) (ks : List Int), t + g = n ∧ i = .int .i64 t ∧ Hid (OwnsKeysN Try.prog 3 4 wr v4.heap.size t ks) ∧ Hid (ks.Nodup ∧ ∀ z, z ∈ ks ↔ z ∈ drawsL (L.take t)) ∧ Hid (Below v4.heap.size v4 wr))
  case atStart => exact ⟨0, [], by omega, rfl, HM0, Lib.hid ⟨List.nodup_nil, fun z => by simp [drawsL]⟩, HBM⟩
  case round =>
    clear HM0 HBM
    obtain ⟨t, ks, ht0, rfl, HM, HKS, HB⟩ := hrel
    have HJ := Lib.hid ht0
    have ht : t ≤ n := by omega
    clear ht0
    by_cases hlt : t < n
    · obtain ⟨x, hx⟩ : ∃ x, L[t]? = some x := ⟨_, List.getElem?_eq_getElem (by rw [HL.out]; omega)⟩
      obtain ⟨b1, o1, ha, hbs, c9⟩ := HT.out.one (below_on HB4.out HB.out) (map_get hx)
      have hwx := wf_i64 (HO.out x (List.mem_of_getElem? hx))
      have HD := Lib.hid (fun w => draw_int x w hwx)
      have hyb := withI_bd x 72057594037927936 (by omega)
      have HN : Hid ((addK ks (withI x 72057594037927936)).Nodup ∧ ∀ z, z ∈ addK ks (withI x 72057594037927936) ↔ z ∈ drawsL (L.take (t + 1))) := Lib.hid ⟨nodup_addK HKS.out.1, fun z => by rw [draws_take hx, mem_addK, HKS.out.2 z]; simp⟩
      subst ha
      clear hx hwx
      generalize withI x 72057594037927936 = y at *
      obtain ⟨y0, y1⟩ := hyb
      have HKY := Lib.hid (keyI y (by omega))
      go_wp2_with fail
      refine (HD.out _).mono ?_
      rintro e w5 ⟨rfl, hw5⟩
      rw [← hw5]
      clear hw5 HD
      go_wp2_with (at_mapUpdate; refine wpList_putKey _ rfl _ _ _ 56 rfl 3 4 lawI Try.underlying56 Try.underlying4 v4.heap.size t ks rfl HM.out (by unfold maxLen; omega) y rfl rfl HKY.out ?_; intro w6 hI6 hg6)
      go_roundg (n - (t + 1))
      case measure => have := HJ.out; omega
      case rel => exact ⟨t + 1, _, by omega, by go_num, Lib.hid hI6, HN, Lib.hid (HB.out.grown hg6 HB.out.size (fun j hj => by injection hj with hj; omega))⟩
    · obtain rfl : t = n := by omega
      have hlen := HM.out.len Try.underlying56 3
      have hkl := keys_len HKS.out.1 HKS.out.2
      rw [hkl] at hlen
      obtain ⟨S, hS⟩ : ∃ S, (uniq (drawsL (L.take t))).length = S := ⟨_, rfl⟩
      rw [hS] at hlen HLAW
      have HSL : Hid (S ≤ 200) := Lib.hid (by have h1 := uniq_lenle (drawsL (L.take t)); unfold drawsL at h1; rw [List.length_map, List.length_take] at h1; unfold drawsL at hS; omega)
      have hS2 := HSL.out
      have HBZ := Lib.hid (below_on HB4.out HB.out)
      clear hkl hS HSL HB HB4 HJ
      rcases HLAW.out with ⟨rfl, rfl, hz⟩ | ⟨rfl, h1, rfl⟩ | ⟨rfl, h1, h2⟩
      · have hlook := HM.out.look lawI Try.underlying56 Try.underlying4 (zeroB _) (keyI 0 (by omega)) true ⟨fun _ => (HKS.out.2 0).2 hz, fun _ => rfl⟩
        clear hz HLAW HKS HM
        go_wp2
        go_ret
        exact ⟨rfl, HBZ.out⟩
      · have t1 : (((S : Nat) : Int) == ((S : Nat) : Int)) = true := by simp
        have t2 : ¬ k ≤ S := by omega
        clear HLAW HKS HM
        go_wp2
        go_ret
        exact ⟨rfl, HBZ.out⟩
      · have t2 : ¬ S < k := by omega
        clear HLAW HKS HM
        go_wp2
        go_ret
        exact ⟨rfl, HBZ.out⟩

set_option maxRecDepth 100000 in
theorem lifted (os : Os) (started : os.Started) (H : Type) (enc : TypeId × Value → H) :
    ReturnsInHanded {} Try.checked os 9 .any (Rows.bottomManySpec.pre6 enc Try.prog Try.f9 Rows.bottomManyRow.domain false) (Rows.bottomManySpec.post enc Try.prog Try.f9 false true false false) := by
  refine returnsInHanded_of_change_sized (C := Try.checked) own started (by kernel_rfl) Try.func9
    (ChangeSpec.witness6 (enc := enc) (C := Try.checked) false ⟨#[], #[.int .i64 0, .slice none 0 0], []⟩ 8 (by kernel_rfl) (by kernel_rfl) (by kernel_rfl) (by kernel_rfl)) ?_
  intro W base args ds gs before hval0 hW hcnd hsz0 _
  have hval : ∀ (j : Nat) t v, Try.f9.params[j]? = some t → args[j]? = some v → Value.okWide Try.prog W .any base t v := hval0
  have hW' := hW
  obtain ⟨p, q, hA0, hV, rfl, hfz, hnd⟩ := hW
  have hA : DataW.TrodAll enc Try.prog W 0 (fun _ => true) true Try.f9.params.toList args.toList ds p := hA0
  have hsz : (DataW.weightsEach Try.prog (Try.f9.params.toList ++ Rows.bottomManySpec.plain.varTypes Try.prog) (ds ++ gs)).all (· ≤ reachBytes) = true := hsz0
  rw [Try.params9] at hA hval hsz
  obtain ⟨v0, vs0, d0, ds0, p0, q0, hargs, rfl, rfl, h0, r0⟩ := trodAll_cons hA
  obtain ⟨v1, vs1, d1, ds1, p1, q1, rfl, rfl, rfl, h1, r1⟩ := trodAll_cons r0
  obtain ⟨rfl, rfl, rfl⟩ := trodAll_nil r1
  obtain rfl : args = #[v0, v1] := by cases args; simp_all
  obtain ⟨rfl, rfl⟩ := trodVars_none hV
  have k0 := h0
  have L0 := light_of hsz (j := 0) (t := 3) (d := d0) rfl rfl
  have lt0 : ∀ x ∈ p0, x.block < W.heap.size := by obtain ⟨m, hm⟩ := k0; exact DataW.trod_lt m _ _ _ hm
  obtain ⟨x0, rfl, rfl, rfl, w0⟩ := open_int Try.underlying3 (hval 0 3 v0 rfl rfl) h0
  have k1 := h1
  have L1 := light_of hsz (j := 1) (t := 22) (d := d1) rfl rfl
  have lt1 : ∀ x ∈ p1, x.block < W.heap.size := by obtain ⟨m, hm⟩ := k1; exact DataW.trod_lt m _ _ _ hm
  obtain ⟨a1, len1, cap1, rfl⟩ := okWide_slice Try.underlying22 (hval 1 22 v1 rfl rfl)
  obtain ⟨n1, f1⟩ := trod_slice_of Try.underlying22 h1
  have F1 := And.intro f1 L1
  obtain ⟨x1, e1, t1, b1, o1⟩ := el_slice (w := W) (k := 1) iC wfI (by decide) Try.underlying22 (by kernel_rfl) (el_int Try.underlying3) (B := 8) (by kernel_rfl) _ _ _ F1.1 F1.2
  simp only [slC, List.cons.injEq, Value.slice.injEq, and_true] at e1
  obtain ⟨rfl, rfl, rfl⟩ := e1
  clear hA0 hval0
  refine (walk x0 x1 W w0 t1 b1 o1).mono fun e W' ⟨he, hg⟩ => ?_
  subst he
  exact ⟨_, rfl, _, _, _, [], _, [], hW', trodAll_mk1 (shut_bool Try.underlying4 _), (trodAll_cons_mk (Below.trod laidOut (by kernel_rfl) (of_decide_eq_true (by kernel_rfl)) k0 hg lt0) (trodAll_cons_mk (Below.trod laidOut (by kernel_rfl) (of_decide_eq_true (by kernel_rfl)) k1 hg lt1) trodAll_mk0)), rfl, hg.frame _, fun h => by cases h⟩

theorem over : Rows.bottomManyRow.holds Try.pinned (OpenSpec.ofChange Rows.bottomManySpec) :=
  OpenClaim.holds_of_wide 9 Try.f9 rfl rfl rfl rfl rfl rfl rfl ⟨rfl, rfl, rfl, rfl, rfl⟩ rfl rfl rfl rfl rfl (by kernel_rfl) Try.func9 (by kernel_rfl)
    (of_decide_eq_true (by kernel_rfl)) (by unfold Func.isWrapper; first | (rw [if_pos (by decide +kernel)]; kernel_rfl) | (rw [if_neg (by decide +kernel)]; exact ⟨rfl, rfl⟩))
    (fun os started H enc _ => lifted os started H enc)

/-- ████ THE STATEMENT ████ -/
theorem proved : Rows.BottomManySaid :=
  over
#print axioms proved
end Go.Proofs.Ytfgcmlgdgmcffaa.bottomMany
