/-
  'Rows.AliasSharesSaid' is proved: over all columns and parts, every index is picked in proportion to its weight. No condition.
-/
import Derived.Test.YtfndahcihmpmhaaRows
import Derived.Test.YtfndahcihmpmhaaShapes
import Derived.Test.YtfndahcihmpmhaaAliasMake
import Derived.Test.YtfndahcihmpmhaaWalkerShare
import Derived.Test.YtfndahcihmpmhaaEqualInts
import Derived.Test.YtfndahcihmpmhaaLit
import Derived.Deep.DeepCutAuto
import Derived.WalkKit
import Derived.ProofKit
import Derived.OpenShut
import Derived.ShutString
import Derived.ChangeOld
import Derived.Below
namespace Go.Proofs.Ytfndahcihmpmhaa.aliasShares
open Go.ChangeShapes Go.WideShapes Go.ChangeAt Go.RowKit
open Go.ChangeMaps (open_string shut_string)
set_option linter.unusedVariables false

theorem own : ownKnob Try.prog.godebug = none := by kernel_rfl
theorem laidOut : laidOutB Try.prog = true := by kernel_rfl

theorem w13 : weightsE [1, 3] = 0 := by decide

set_option maxRecDepth 100000 in
set_option maxHeartbeats 2000000 in
theorem walk (x0 : Sl Int) (w : World) (t0 : Tab w x0.a x0.len x0.cap 1 (x0.l.map iC)) (b0 : x0.len * 8 ≤ 140737488351232) (o0 : ∀ z ∈ x0.l, wfI z) :
    Calls Try.prog 8 #[.slice x0.a x0.len x0.cap] w fun e w' => e = .returned (.bool true) ∧ Below w.heap.size w w' := by
  obtain ⟨a, len, cap, L⟩ := x0
  have hm := t0.hmax
  have hle := t0.hle
  unfold maxLen at hm
  have hl : L.length = len := by have h := t0.hlen; rw [List.length_map] at h; exact h
  have HT := Lib.hid t0
  have HL := Lib.hid hl
  clear t0 b0 o0
  have hb0 : Below w.heap.size w (w.alloc (.cells #[.int .i64 1, .int .i64 3] 3)) := (Below.refl _ _).alloc (Nat.le_refl _) _
  have C0 := make_ok (some ⟨w.heap.size, 0, none⟩) 2 2 [1, 3] (w.alloc (.cells #[.int .i64 1, .int .i64 3] 3)) (tab_lit w 3 1 2 ([(1 : Int), 3].map iC) #[.int .i64 1, .int .i64 3] rfl rfl (rows_of iC_len _) (by decide) _ rfl) w13
  rw [show ([1, 3] : List Int).sum = 4 from by decide] at C0
  have C0 := Lib.hid C0
  go_enter Try.func8, Try.ntmps8
  go_wp2_with fail
  refine C0.out.mono ?_
  rintro e v1 ⟨O1, R1, rfl, hM1, hb1⟩
  have HB1 := Lib.hid (below_on (below_on hb0 hb1) ((Below.refl v1.heap.size v1).alloc (Nat.le_refl _) (.cells #[.int .i64 4, .slice (some ⟨O1, 0, none⟩) 2 2, .slice (some ⟨R1, 0, none⟩) 2 2] 33)))
  clear C0 hM1 hb1 hb0
  have HT1 := Lib.hid (HT.out.below HB1.out)
  by_cases hE : weightsE L = 0
  · have C2 := Lib.hid (make_ok a len cap L _ HT1.out hE)
    go_wp2_with fail
    refine C2.out.mono ?_
    rintro e v2 ⟨O, R, rfl, hM2, hb2⟩
    have hx2 : (v2.alloc (.cells #[.int .i64 L.sum, .slice (some ⟨O, 0, none⟩) len len, .slice (some ⟨R, 0, none⟩) len len] 33)).heap[v2.heap.size]? = some (.cells #[.int .i64 L.sum, .slice (some ⟨O, 0, none⟩) len len, .slice (some ⟨R, 0, none⟩) len len] 33 (0, 0)) := (MapKept.heap_alloc v2 _).1
    have hba : Below v2.heap.size v2 (v2.alloc (.cells #[.int .i64 L.sum, .slice (some ⟨O, 0, none⟩) len len, .slice (some ⟨R, 0, none⟩) len len] 33)) := (Below.refl _ _).alloc (Nat.le_refl _) _
    have HB2 := Lib.hid (below_on (below_on HB1.out hb2) hba)
    have hTO := ((hM2.own _ (List.mem_cons_self ..)).below hba).tab_of
    have hTR := ((hM2.own _ (List.mem_cons_of_mem _ (List.mem_cons_self ..))).below hba).tab_of
    have hok := Walker.table_ok hE
    have hlens := Walker.table_lens hE
    have C3 := shares_ok L.sum (some ⟨O, 0, none⟩) (some ⟨R, 0, none⟩) len len len len (Walker.table L).own (Walker.table L).rest _ hTO hTR hok
    rw [hlens.1, HL.out] at C3
    have C3 := Lib.hid C3
    have HSH : Hid (∀ j, j < len → (sharesTo L.sum (Walker.table L).own (Walker.table L).rest len len)[j]? = some (Walker.g L j * (len : Int))) := Lib.hid (fun j hj => by have := Walker.table_share hE (j := j) (by rw [HL.out]; exact hj); rwa [HL.out] at this)
    have HBx : Hid (∀ W, Below (v2.alloc (.cells #[.int .i64 L.sum, .slice (some ⟨O, 0, none⟩) len len, .slice (some ⟨R, 0, none⟩) len len] 33)).heap.size (v2.alloc (.cells #[.int .i64 L.sum, .slice (some ⟨O, 0, none⟩) len len, .slice (some ⟨R, 0, none⟩) len len] 33)) W → Below (v1.alloc (.cells #[.int .i64 4, .slice (some ⟨O1, 0, none⟩) 2 2, .slice (some ⟨R1, 0, none⟩) 2 2] 33)).heap.size (v1.alloc (.cells #[.int .i64 4, .slice (some ⟨O1, 0, none⟩) 2 2, .slice (some ⟨R1, 0, none⟩) 2 2] 33)) W) := Lib.hid (fun W hW => below_on (below_on hb2 hba) hW)
    have C4 := Lib.hid (fun (W : World) h1 h2 => aliasCheck_any L.sum (some ⟨O, 0, none⟩) (some ⟨R, 0, none⟩) len len len len (Walker.table L).own (Walker.table L).rest W h1 h2)
    rw [hok] at C4
    have HTO := Lib.hid (And.intro hTO hTR)
    have HZ2 := Lib.hid (weightsE_zero hE)
    have HX2 := Lib.hid hx2
    obtain ⟨⟨c0, c1, c2⟩, _, _, _⟩ := alias_cells hx2
    unfold aliasV at C3 C4
    clear hM2 hb2 hba hx2 hTO hTR hok hlens C2 hE
    have HSL : Hid ((sharesTo L.sum (Walker.table L).own (Walker.table L).rest len len).length = len) := Lib.hid (sharesTo_len _ _ _ _ _)
    generalize L.sum = A at *
    generalize sharesTo A (Walker.table L).own (Walker.table L).rest len len = SH at *
    go_wp2_with fail
    refine C3.out.mono ?_
    rintro e v3 ⟨s3, rfl, hO3, hb3⟩
    obtain ⟨q3, cap3, rfl, hT3⟩ := hO3.tab
    have HX3 := Lib.hid (kept_blk hb3 HX2.out)
    have HB3 := Lib.hid (below_on HB2.out hb3)
    have hTO3 := HTO.out.1.below hb3
    have hTR3 := HTO.out.2.below hb3
    rw [List.length_map, HSL.out] at hT3 ⊢
    have C5 := Lib.hid (C4.out v3 hTO3 hTR3)
    have HT3 := Lib.hid hT3
    have HTL3 := Lib.hid (HT1.out.below (HBx.out v3 hb3))
    clear hO3 hb3 hT3 hTO3 hTR3 c0 c1 c2 C3 C4
    obtain ⟨⟨c0, c1, c2⟩, _, _, _⟩ := alias_cells HX3.out
    have t0 : ((len : Int) != (len : Int)) = false := by simp
    go_wp2_with fail
    refine C5.out.mono ?_
    rintro e v4 ⟨rfl, hb4⟩
    have HT4 := Lib.hid (HT3.out.below hb4)
    have HTL4 := Lib.hid (HTL3.out.below hb4)
    have HB4 := Lib.hid (below_on HB3.out hb4)
    clear hb4 c0 c1 c2 C5 HT3 HTL3
    go_wp2_with fail
    go_loopg [61] len (fun g i wr => ∃ k : Nat, k + g = len ∧ i = .int .i64 k ∧ wr = v4)
    case atStart => exact ⟨0, by omega, rfl, rfl⟩
    case round =>
      obtain ⟨k, hk0, rfl, rfl⟩ := hrel
      have HJ := Lib.hid hk0
      have hk : k ≤ len := by omega
      clear hk0
      by_cases hlt : k < len
      · obtain ⟨x, hx⟩ : ∃ x, L[k]? = some x := ⟨_, List.getElem?_eq_getElem (by rw [HL.out]; exact hlt)⟩
        have hs := HSH.out k hlt
        rw [Walker.g_some hx] at hs
        have bx := HZ2.out.2.1 x (List.mem_of_getElem? hx)
        have h40 := HZ2.out.1
        rw [HL.out] at h40
        have by1 : 0 ≤ x * (len : Int) := Int.mul_nonneg bx.1 (by omega)
        have by2 : x * (len : Int) ≤ 40000000000000 := by
          have h2 : x * (len : Int) ≤ 1000000000000 * (len : Int) := Int.mul_le_mul_of_nonneg_right bx.2 (by omega)
          omega
        obtain ⟨b1, o1, ha1, hbs1, q1⟩ := HTL4.out.one (Below.refl _ _) (map_get hx)
        obtain ⟨b2, o2, ha2, hbs2, q2⟩ := HT4.out.one (Below.refl _ _) (map_get hs)
        subst ha1 ha2
        clear hx hs bx
        have t9 : ((x * (len : Int)) != (x * (len : Int))) = false := by simp
        go_wp2_with fail
        go_roundg (len - (k + 1))
        case measure => have := HJ.out; omega
        case rel => exact ⟨k + 1, by omega, by go_num, rfl⟩
      · obtain rfl : k = len := by omega
        go_wp2
        go_ret
        exact ⟨rfl, HB4.out⟩
  · have C2 := Lib.hid (make_bad a len cap L _ HT1.out hE)
    have t1 : (weightsE L != 0) = true := by simpa using hE
    generalize weightsE L = E at *
    clear hE
    go_wp2_with fail
    refine C2.out.mono ?_
    rintro e v2 ⟨rfl, hb2⟩
    have HB2 := Lib.hid (below_on (below_on HB1.out hb2) ((Below.refl v2.heap.size v2).alloc (Nat.le_refl _) (.cells #[.int .i64 0, .slice none 0 0, .slice none 0 0] 33)))
    clear hb2 C2
    go_wp2
    go_ret
    exact ⟨rfl, HB2.out⟩

set_option maxRecDepth 100000 in
theorem lifted (os : Os) (started : os.Started) (H : Type) (enc : TypeId × Value → H) :
    ReturnsInHanded {} Try.checked os 8 .any (Rows.aliasSharesSpec.pre6 enc Try.prog Try.f8 Rows.aliasSharesRow.domain false) (Rows.aliasSharesSpec.post enc Try.prog Try.f8 false true false false) := by
  refine returnsInHanded_of_change_sized (C := Try.checked) own started (by kernel_rfl) Try.func8
    (ChangeSpec.witness6 (enc := enc) (C := Try.checked) false ⟨#[], #[.slice none 0 0], []⟩ 8 (by kernel_rfl) (by kernel_rfl) (by kernel_rfl) (by kernel_rfl)) ?_
  intro W base args ds gs before hval0 hW hcnd hsz0 _
  have hval : ∀ (j : Nat) t v, Try.f8.params[j]? = some t → args[j]? = some v → Value.okWide Try.prog W .any base t v := hval0
  have hW' := hW
  obtain ⟨p, q, hA0, hV, rfl, hfz, hnd⟩ := hW
  have hA : DataW.TrodAll enc Try.prog W 0 (fun _ => true) true Try.f8.params.toList args.toList ds p := hA0
  have hsz : (DataW.weightsEach Try.prog (Try.f8.params.toList ++ Rows.aliasSharesSpec.plain.varTypes Try.prog) (ds ++ gs)).all (· ≤ reachBytes) = true := hsz0
  rw [Try.params8] at hA hval hsz
  obtain ⟨v0, vs0, d0, ds0, p0, q0, hargs, rfl, rfl, h0, r0⟩ := trodAll_cons hA
  obtain ⟨rfl, rfl, rfl⟩ := trodAll_nil r0
  obtain rfl : args = #[v0] := by cases args; simp_all
  obtain ⟨rfl, rfl⟩ := trodVars_none hV
  have k0 := h0
  have L0 := light_of hsz (j := 0) (t := 22) (d := d0) rfl rfl
  have lt0 : ∀ x ∈ p0, x.block < W.heap.size := by obtain ⟨m, hm⟩ := k0; exact DataW.trod_lt m _ _ _ hm
  obtain ⟨a0, len0, cap0, rfl⟩ := okWide_slice Try.underlying22 (hval 0 22 v0 rfl rfl)
  obtain ⟨n0, f0⟩ := trod_slice_of Try.underlying22 h0
  have F0 := And.intro f0 L0
  obtain ⟨x0, e0, t0, b0, o0⟩ := el_slice (w := W) (k := 1) iC wfI (by decide) Try.underlying22 (by kernel_rfl) (el_int Try.underlying3) (B := 8) (by kernel_rfl) _ _ _ F0.1 F0.2
  simp only [slC, List.cons.injEq, Value.slice.injEq, and_true] at e0
  obtain ⟨rfl, rfl, rfl⟩ := e0
  clear hA0 hval0
  refine (walk x0 W t0 b0 o0).mono fun e W' ⟨he, hg⟩ => ?_
  subst he
  exact ⟨_, rfl, _, _, _, [], _, [], hW', trodAll_mk1 (shut_bool Try.underlying4 _), (trodAll_cons_mk (Below.trod laidOut (by kernel_rfl) (of_decide_eq_true (by kernel_rfl)) k0 hg lt0) trodAll_mk0), rfl, hg.frame _, fun h => by cases h⟩

theorem over : Rows.aliasSharesRow.holds Try.pinned (OpenSpec.ofChange Rows.aliasSharesSpec) :=
  OpenClaim.holds_of_wide 8 Try.f8 rfl rfl rfl rfl rfl rfl rfl ⟨rfl, rfl, rfl, rfl, rfl⟩ rfl rfl rfl rfl rfl (by kernel_rfl) Try.func8 (by kernel_rfl)
    (of_decide_eq_true (by kernel_rfl)) (by unfold Func.isWrapper; first | (rw [if_pos (by decide +kernel)]; kernel_rfl) | (rw [if_neg (by decide +kernel)]; exact ⟨rfl, rfl⟩))
    (fun os started H enc _ => lifted os started H enc)

/-- ████ THE STATEMENT ████ -/
theorem proved : Rows.AliasSharesSaid :=
  over
#print axioms proved
end Go.Proofs.Ytfndahcihmpmhaa.aliasShares
