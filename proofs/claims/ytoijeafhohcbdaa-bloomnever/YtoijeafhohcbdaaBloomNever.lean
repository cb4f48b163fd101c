/-
  'Rows.BloomNeverSaid' is proved: a key that was put is found, whatever else comes, and in an empty filter nothing is. No condition.
-/
import Derived.Test.YtoijeafhohcbdaaRows
import Derived.Test.YtoijeafhohcbdaaShapes
import Derived.Test.YtoijeafhohcbdaaBloomKeys
import Derived.Test.YtoijeafhohcbdaaLit
import Derived.Deep.DeepCutAuto
import Derived.WalkKit
import Derived.ProofKit
import Derived.OpenShut
import Derived.ShutString
import Derived.ChangeOld
import Derived.Below
namespace Go.Proofs.Ytoijeafhohcbdaa.bloomNever
open Go.ChangeShapes Go.WideShapes Go.ChangeAt Go.RowKit
open Go.ChangeMaps (open_string shut_string)
set_option linter.unusedVariables false

theorem own : ownKnob Try.prog.godebug = none := by kernel_rfl
theorem laidOut : laidOutB Try.prog = true := by kernel_rfl

open Bloom
theorem lit_two : hasB [true, true] (places 5 2 1) = true := by
  rw [hasB_true]
  intro p hp
  have := places_lt (by decide) p hp
  rcases (show p = 0 ∨ p = 1 by omega) with rfl | rfl <;> rfl
theorem put_here {s k : Nat} (h1 : 1 ≤ s) {l : List Int} {x : Int} (h : x ∈ l) : hasB (putB (List.replicate s false) (allP s k l)) (places x s k) = true :=
  hasB_put (fun p hp => by rw [List.length_replicate]; exact places_lt h1 p hp) (allP_mem h)
theorem put_there {s k : Nat} {B : List Bool} (h1 : 1 ≤ s) (hB : B.length = s) (x : Int) : hasB (putB B (places x s k)) (places x s k) = true :=
  hasB_put (fun p hp => by rw [hB]; exact places_lt h1 p hp) (fun _ h => h)
theorem bools_one (l : List Bool) : ∀ r ∈ l.map bC, r.length = 1 := rows_of bC_len l

set_option maxRecDepth 100000 in
set_option maxHeartbeats 2000000 in
theorem walk (x0 : Int) (x1 : Int) (x2 : Sl Int) (x3 : Int) (w : World) (w0 : (Lit.int .i64 x0).wf = true) (w1 : (Lit.int .i64 x1).wf = true) (t2 : Tab w x2.a x2.len x2.cap 1 (x2.l.map iC)) (b2 : x2.len * 8 ≤ 140737488351232) (o2 : ∀ z ∈ x2.l, wfI z) (w3 : (Lit.int .i64 x3).wf = true) :
    Calls Try.prog 7 #[.int .i64 x0, .int .i64 x1, .slice x2.a x2.len x2.cap, .int .i64 x3] w fun e w' => e = .returned (.bool true) ∧ Below w.heap.size w w' := by
  obtain ⟨q, ln, cp, l⟩ := x2
  have hL : Tab w q ln cp 1 (l.map iC) := t2
  have hl0 : l.length = ln := by have h := hL.hlen; rw [List.length_map] at h; exact h
  have b0 := wf_i64 w0
  have b1 := wf_i64 w1
  have hmx := hL.hmax
  have hle := hL.hle
  unfold maxLen at hmx
  clear t2 o2 b2 w0 w1 w3
  generalize x3 = y at *
  have HEm := fun W => empty_any x0 x1 W b0 b1
  have s1 := (sizeB_bd x0).2.1
  have s2 := (sizeB_bd x0).2.2
  have k1 := (waysB_bd x1).2.1
  have k2 := (waysB_bd x1).2.2
  generalize sizeB x0 = s at *
  generalize waysB x1 = k at *
  replace HEm := Lib.hid HEm
  have hE := filterE_ok s1 s2 k1 k2
  have CL := fhas_ok 2 1 (some ⟨w.heap.size, 0, none⟩) 2 2 [true, true] 5 _ (tab_lit w 4 1 2 ([true, true].map bC) #[.bool true, .bool true] rfl rfl (bools_one _) (by decide) _ rfl) (by decide)
  rw [lit_two] at CL
  have HBL := Lib.hid (show Below w.heap.size w (w.alloc (.cells #[.bool true, .bool true] 4)) from (Below.refl _ _).alloc (Nat.le_refl _) _)
  have CH := fun (W : World) (a' : Option Addr) (c' : Nat) (B' : List Bool) (z : Int) (h : Tab W a' s c' 1 (B'.map bC)) => fhas_ok s k a' s c' B' z W h hE
  have CP := fun (W : World) (a' : Option Addr) (c' : Nat) (B' : List Bool) (z : Int) (h : Tab W a' s c' 1 (B'.map bC)) => fput_ok s k a' s c' B' z W h hE
  have CF := fun (W : World) (a' : Option Addr) (c' : Nat) (B' : List Bool) (h : Tab W a' s c' 1 (B'.map bC)) (hb : Below w.heap.size w W) => fill_any s k a' q s c' ln cp B' l W h (hL.below hb) hE
  unfold filterV at CL CH CP
  replace CL := Lib.hid CL
  replace CH := Lib.hid CH
  replace CP := Lib.hid CP
  replace CF := Lib.hid CF
  obtain ⟨n, hn⟩ : ∃ n, min ln 100 = n := ⟨_, rfl⟩
  have HTK : l.take 100 = l.take n := by
    by_cases h9 : ln ≤ 100
    · rw [List.take_of_length_le (by omega), List.take_of_length_le (by omega)]
    · rw [show n = 100 from by omega]
  rw [HTK] at CF
  have hn1 : n ≤ ln := by omega
  have hmin : min (ln : Int) 100 = (n : Int) := by omega
  have HMIN := Lib.hid hmin
  have HU := Lib.hid (fun W => run_upto 23 3 1 Try.underlying23 elem_intK size_intK q ln cp n (by omega) W)
  have HL := Lib.hid hL
  have HLN := Lib.hid hl0
  have HIN : Hid (∀ t x, t < n → l[t]? = some x → hasB (putB (List.replicate s false) (allP s k (l.take n))) (places x s k) = true) := Lib.hid (fun t x ht hx => put_here s1 (by
    have h2 : (l.take n)[t]? = some x := by rw [List.getElem?_take, if_pos ht]; exact hx
    exact List.mem_of_getElem? h2))
  have HFL : Hid ((putB (List.replicate s false) (allP s k (l.take n))).length = s) := Lib.hid (by rw [putB_len]; simp)
  have HNO := Lib.hid (none_has s1 k1 y)
  have HTH := Lib.hid (fun (B : List Bool) (h : B.length = s) => put_there (k := k) s1 h y)
  clear hL hl0 hn HTK hE hmin
  go_enter Try.func7, Try.ntmps7
  go_wp2_with fail
  refine CL.out.mono ?_
  rintro e v1 ⟨rfl, hb⟩
  have HB1 := Lib.hid (below_on HBL.out hb)
  clear hb HBL CL
  go_wp2_with fail
  refine (HEm.out _).mono ?_
  rintro e v2 ⟨q2, rfl, hO, hb⟩
  obtain ⟨a2, c2, rfl, hT⟩ := hO.tab
  rw [List.length_map, List.length_replicate] at hT ⊢
  have HB2 := Lib.hid (below_on HB1.out hb)
  have CF2 := Lib.hid (CF.out v2 a2 c2 _ hT HB2.out)
  clear hb hO hT HB1 CF
  go_wp2_with fail
  refine CF2.out.mono ?_
  rintro e v3 ⟨a3, c3, rfl, hT, hb⟩
  obtain ⟨F, hF⟩ : ∃ F, putB (List.replicate s false) (allP s k (l.take n)) = F := ⟨_, rfl⟩
  rw [hF] at hT HIN HFL
  have hz := newT (S := s) (K := k) hT
  have HBn := below_on (below_on HB2.out hb) hz.2
  obtain ⟨v4, hv⟩ : ∃ v, v3.alloc (.cells #[.int .i64 s, .int .i64 k, .slice a3 s c3] 33) = v := ⟨_, rfl⟩
  rw [hv] at hz HBn
  obtain ⟨XF, hX⟩ : ∃ X, v3.heap.size = X := ⟨_, rfl⟩
  rw [hX] at hz
  have SA := Lib.hid hz.1
  have HB4 := Lib.hid HBn
  have HVX := Lib.hid (And.intro hv hX)
  clear hz HBn hb hT hF hv hX CF2 HB2
  go_upto_region 5 with fail
  rw [HVX.out.1, HVX.out.2]
  clear HVX
  go_upto_region 7 with fail
  go_cut [49, 50, 51] (fun s t i wx => s = .slice q n cp ∧ t = .int .i64 n ∧ i = .int .i64 0 ∧ wx = v4)
  case first =>
    have rU := HU.out
    have hmin := HMIN.out
    by_cases h9 : ln ≤ 100
    · obtain rfl : n = ln := by omega
      clear hmin
      go_wp2_with fail
      go_meet
      case rel => exact ⟨rfl, rfl, rfl, rfl⟩
    · obtain rfl : n = 100 := by omega
      have h9' : 100 < ln := by omega
      clear h9 hmin
      go_wp2_with fail
      go_meet
      case rel => exact ⟨rfl, rfl, rfl, rfl⟩
  case rest =>
  obtain ⟨rfl, rfl, rfl, hwc⟩ := hcut
  rw [hwc]
  clear hwc HU HMIN
  go_wp2_with fail
  go_loopg [51] n (fun g i wr => ∃ t : Nat, t + g = n ∧ i = .int .i64 t ∧ Hid (Below v4.heap.size v4 wr))
  case atStart => exact ⟨0, by omega, rfl, Lib.hid (Below.refl _ _)⟩
  case round =>
    obtain ⟨t, ht0, rfl, HB⟩ := hrel
    have HJ := Lib.hid ht0
    have ht : t ≤ n := by omega
    clear ht0
    by_cases hlt : t < n
    · obtain ⟨x, hx⟩ : ∃ x, l[t]? = some x := ⟨_, List.getElem?_eq_getElem (by rw [HLN.out]; omega)⟩
      obtain ⟨b1, o1, ha, hbs, c9⟩ := HL.out.one (below_on HB4.out HB.out) (map_get hx)
      have hi := HIN.out t x hlt hx
      have S2 := Lib.hid (SA.out.below HB.out)
      have HC := CH.out wr a3 c3 F x S2.out.2
      rw [hi] at HC
      replace HC := Lib.hid HC
      obtain ⟨d0, d1, d2⟩ := S2.out.cells
      subst ha
      clear hx hi S2
      go_wp2_with fail
      refine HC.out.mono ?_
      rintro e w5 ⟨rfl, hb⟩
      have HB5 := Lib.hid (below_on HB.out hb)
      clear hb d0 d1 d2 c9 HC
      go_wp2_with fail
      go_roundg (n - (t + 1))
      case measure => have := HJ.out; omega
      case rel => exact ⟨t + 1, by omega, by go_num, HB5⟩
    · obtain rfl : t = n := by omega
      clear HIN HL
      have HB5 := Lib.hid (below_on HB4.out HB.out)
      replace SA := Lib.hid (SA.out.below HB.out)
      clear HB HB4
      go_wp2_with fail
      refine (HEm.out _).mono ?_
      rintro e v5 ⟨q5, rfl, hO, hb⟩
      obtain ⟨a5, c5, rfl, hT⟩ := hO.tab
      rw [List.length_map, List.length_replicate] at hT ⊢
      have HC := CH.out v5 a5 c5 _ y hT
      rw [HNO.out] at HC
      replace HC := Lib.hid HC
      replace HB5 := Lib.hid (below_on HB5.out hb)
      replace SA := Lib.hid (SA.out.below hb)
      clear hb hO hT HNO HEm
      go_wp2_with fail
      refine HC.out.mono ?_
      rintro e v6 ⟨rfl, hb⟩
      replace HB5 := Lib.hid (below_on HB5.out hb)
      replace SA := Lib.hid (SA.out.below hb)
      have HC6 := Lib.hid (CP.out v6 a3 c3 F y SA.out.2)
      obtain ⟨d0, d1, d2⟩ := SA.out.cells
      clear hb HC
      go_wp2_with fail
      refine HC6.out.mono ?_
      rintro e v7 ⟨q7, rfl, hO, hb⟩
      obtain ⟨a7, c7, rfl, _⟩ := hO.tab
      have hpl : (putB F (places y s k)).length = s := by rw [putB_len]; exact HFL.out
      rw [List.length_map, hpl] at hO ⊢
      have hth := HTH.out F HFL.out
      generalize putB F (places y s k) = G at *
      have hz := SF.new (S := s) (K := k) hO
      have HBn := below_on (below_on HB5.out hb) hz.2
      obtain ⟨v8, hv⟩ : ∃ v, v7.alloc (.cells #[.int .i64 s, .int .i64 k, .slice a7 s c7] 33) = v := ⟨_, rfl⟩
      rw [hv] at hz HBn
      obtain ⟨XG, hX⟩ : ∃ X, v7.heap.size = X := ⟨_, rfl⟩
      rw [hX] at hz
      have SG := Lib.hid hz.1
      have HB8 := Lib.hid HBn
      have HVX := Lib.hid (And.intro hv hX)
      have HC8 := CH.out v8 a7 c7 G y SG.out.2
      rw [hth] at HC8
      replace HC8 := Lib.hid HC8
      clear hz HBn hb hO hv hX HC6 HB5 d0 d1 d2 hpl hth
      go_upto_region 16 with fail
      rw [HVX.out.1, HVX.out.2]
      clear HVX
      obtain ⟨d0, d1, d2⟩ := SG.out.cells
      go_wp2_with fail
      refine HC8.out.mono ?_
      rintro e v9 ⟨rfl, hb⟩
      have HB9 := Lib.hid (below_on HB8.out hb)
      clear hb HC8
      go_wp2
      go_ret
      exact ⟨rfl, HB9.out⟩

set_option maxRecDepth 100000 in
theorem lifted (os : Os) (started : os.Started) (H : Type) (enc : TypeId × Value → H) :
    ReturnsInHanded {} Try.checked os 7 .any (Rows.bloomNeverSpec.pre6 enc Try.prog Try.f7 Rows.bloomNeverRow.domain false) (Rows.bloomNeverSpec.post enc Try.prog Try.f7 false true false false) := by
  refine returnsInHanded_of_change_sized (C := Try.checked) own started (by kernel_rfl) Try.func7
    (ChangeSpec.witness6 (enc := enc) (C := Try.checked) false ⟨#[], #[.int .i64 0, .int .i64 0, .slice none 0 0, .int .i64 0], []⟩ 8 (by kernel_rfl) (by kernel_rfl) (by kernel_rfl) (by kernel_rfl)) ?_
  intro W base args ds gs before hval0 hW hcnd hsz0 _
  have hval : ∀ (j : Nat) t v, Try.f7.params[j]? = some t → args[j]? = some v → Value.okWide Try.prog W .any base t v := hval0
  have hW' := hW
  obtain ⟨p, q, hA0, hV, rfl, hfz, hnd⟩ := hW
  have hA : DataW.TrodAll enc Try.prog W 0 (fun _ => true) true Try.f7.params.toList args.toList ds p := hA0
  have hsz : (DataW.weightsEach Try.prog (Try.f7.params.toList ++ Rows.bloomNeverSpec.plain.varTypes Try.prog) (ds ++ gs)).all (· ≤ reachBytes) = true := hsz0
  rw [Try.params7] at hA hval hsz
  obtain ⟨v0, vs0, d0, ds0, p0, q0, hargs, rfl, rfl, h0, r0⟩ := trodAll_cons hA
  obtain ⟨v1, vs1, d1, ds1, p1, q1, rfl, rfl, rfl, h1, r1⟩ := trodAll_cons r0
  obtain ⟨v2, vs2, d2, ds2, p2, q2, rfl, rfl, rfl, h2, r2⟩ := trodAll_cons r1
  obtain ⟨v3, vs3, d3, ds3, p3, q3, rfl, rfl, rfl, h3, r3⟩ := trodAll_cons r2
  obtain ⟨rfl, rfl, rfl⟩ := trodAll_nil r3
  obtain rfl : args = #[v0, v1, v2, v3] := by cases args; simp_all
  obtain ⟨rfl, rfl⟩ := trodVars_none hV
  have k0 := h0
  have L0 := light_of hsz (j := 0) (t := 3) (d := d0) rfl rfl
  have lt0 : ∀ x ∈ p0, x.block < W.heap.size := by obtain ⟨m, hm⟩ := k0; exact DataW.trod_lt m _ _ _ hm
  obtain ⟨x0, rfl, rfl, rfl, w0⟩ := open_int Try.underlying3 (hval 0 3 v0 rfl rfl) h0
  have k1 := h1
  have L1 := light_of hsz (j := 1) (t := 3) (d := d1) rfl rfl
  have lt1 : ∀ x ∈ p1, x.block < W.heap.size := by obtain ⟨m, hm⟩ := k1; exact DataW.trod_lt m _ _ _ hm
  obtain ⟨x1, rfl, rfl, rfl, w1⟩ := open_int Try.underlying3 (hval 1 3 v1 rfl rfl) h1
  have k2 := h2
  have L2 := light_of hsz (j := 2) (t := 23) (d := d2) rfl rfl
  have lt2 : ∀ x ∈ p2, x.block < W.heap.size := by obtain ⟨m, hm⟩ := k2; exact DataW.trod_lt m _ _ _ hm
  obtain ⟨a2, len2, cap2, rfl⟩ := okWide_slice Try.underlying23 (hval 2 23 v2 rfl rfl)
  obtain ⟨n2, f2⟩ := trod_slice_of Try.underlying23 h2
  have F2 := And.intro f2 L2
  obtain ⟨x2, e2, t2, b2, o2⟩ := el_slice (w := W) (k := 1) iC wfI (by decide) Try.underlying23 (by kernel_rfl) (el_int Try.underlying3) (B := 8) (by kernel_rfl) _ _ _ F2.1 F2.2
  simp only [slC, List.cons.injEq, Value.slice.injEq, and_true] at e2
  obtain ⟨rfl, rfl, rfl⟩ := e2
  have k3 := h3
  have L3 := light_of hsz (j := 3) (t := 3) (d := d3) rfl rfl
  have lt3 : ∀ x ∈ p3, x.block < W.heap.size := by obtain ⟨m, hm⟩ := k3; exact DataW.trod_lt m _ _ _ hm
  obtain ⟨x3, rfl, rfl, rfl, w3⟩ := open_int Try.underlying3 (hval 3 3 v3 rfl rfl) h3
  clear hA0 hval0
  refine (walk x0 x1 x2 x3 W w0 w1 t2 b2 o2 w3).mono fun e W' ⟨he, hg⟩ => ?_
  subst he
  exact ⟨_, rfl, _, _, _, [], _, [], hW', trodAll_mk1 (shut_bool Try.underlying4 _), (trodAll_cons_mk (Below.trod laidOut (by kernel_rfl) (of_decide_eq_true (by kernel_rfl)) k0 hg lt0) (trodAll_cons_mk (Below.trod laidOut (by kernel_rfl) (of_decide_eq_true (by kernel_rfl)) k1 hg lt1) (trodAll_cons_mk (Below.trod laidOut (by kernel_rfl) (of_decide_eq_true (by kernel_rfl)) k2 hg lt2) (trodAll_cons_mk (Below.trod laidOut (by kernel_rfl) (of_decide_eq_true (by kernel_rfl)) k3 hg lt3) trodAll_mk0)))), rfl, hg.frame _, fun h => by cases h⟩

theorem over : Rows.bloomNeverRow.holds Try.pinned (OpenSpec.ofChange Rows.bloomNeverSpec) :=
  OpenClaim.holds_of_wide 7 Try.f7 rfl rfl rfl rfl rfl rfl rfl ⟨rfl, rfl, rfl, rfl, rfl⟩ rfl rfl rfl rfl rfl (by kernel_rfl) Try.func7 (by kernel_rfl)
    (of_decide_eq_true (by kernel_rfl)) (by unfold Func.isWrapper; first | (rw [if_pos (by decide +kernel)]; kernel_rfl) | (rw [if_neg (by decide +kernel)]; exact ⟨rfl, rfl⟩))
    (fun os started H enc _ => lifted os started H enc)

/-- ████ THE STATEMENT ████ -/
theorem proved : Rows.BloomNeverSaid :=
  over
#print axioms proved
end Go.Proofs.Ytoijeafhohcbdaa.bloomNever
