/-
  'Rows.SpanWholeSaid' is proved: if two choices of kept spans are whole, so are what both keep and what one of them keeps. No condition.
-/
import Derived.Test.YteddoccgbebbeaaRows
import Derived.Test.YteddoccgbebbeaaShapes
import Derived.Test.YteddoccgbebbeaaSpanKept
import Derived.Test.YteddoccgbebbeaaKeepSpans
import Derived.Test.YteddoccgbebbeaaManyRows
import Derived.Test.YteddoccgbebbeaaInfoBools
import Derived.Test.YteddoccgbebbeaaLit
import Derived.Deep.DeepCutAuto
import Derived.Deep.LoopGhost
import Derived.BigQuiet
import Derived.WalkKit
import Derived.ProofKit
import Derived.OpenShut
import Derived.ShutString
import Derived.ChangeOld
import Derived.Below
namespace Go.Proofs.Yteddoccgbebbeaa.spanWhole
open Go.ChangeShapes Go.WideShapes Go.ChangeAt Go.RowKit
open Go.ChangeMaps (open_string shut_string)
set_option linter.unusedVariables false

theorem own : ownKnob Try.prog.godebug = none := by kernel_rfl
theorem laidOut : laidOutB Try.prog = true := by kernel_rfl

open Span
theorem lit_e : keptE [((-1 : Int), (0 : Int)), (0, 0)] 2 = 0 := by decide
theorem lit_no : false = true ↔ WholeP [((-1 : Int), (0 : Int)), (0, 0)] [false, true] := by
  constructor
  · intro h; cases h
  · intro h
    have := h 1 (0, 0) rfl rfl
    simp at this
theorem lit_yes : true = true ↔ WholeP [((-1 : Int), (0 : Int)), (0, 0)] [true, false] := by
  constructor
  · intro _ i s hs hk
    match i, hs, hk with
    | 0, hs, _ => simp at hs; subst hs; exact Or.inl rfl
    | 1, _, hk => simp at hk
    | i + 2, hs, _ => simp at hs
  · intro _; rfl
/-- the first k of what f says -/
def bits (f : Nat → Bool) (k : Nat) : List Bool := (List.range k).map f
theorem bits_len (f : Nat → Bool) (k : Nat) : (bits f k).length = k := by simp [bits]
theorem bits_succ (f : Nat → Bool) (k : Nat) : (bits f (k + 1)).map bC = (bits f k).map bC ++ [bC (f k)] := by
  unfold bits
  rw [List.range_succ, List.map_append, List.map_append]; rfl
theorem bits_get {f : Nat → Bool} {k i : Nat} (h : i < k) : (bits f k)[i]? = some (f i) := by simp [bits, h]
theorem whole_both {l : List (Int × Int)} {f g : Nat → Bool} (hl : ∀ (i : Nat) (s : Int × Int), l[i]? = some s → -1 ≤ s.1 ∧ s.1 < (i : Int)) (hf : WholeP l (bits f l.length)) (hg : WholeP l (bits g l.length)) : WholeP l (bits (fun i => f i && g i) l.length) := by
  intro i s hs hk
  have hi := (List.getElem?_eq_some_iff.1 hs).1
  rw [bits_get hi, Option.some.injEq, Bool.and_eq_true] at hk
  by_cases e : s.1 = -1
  · exact Or.inl e
  · right
    have hb := hl i s hs
    have hj : s.1.toNat < l.length := by omega
    have h1 := (hf i s hs (by rw [bits_get hi, hk.1])).resolve_left e
    have h2 := (hg i s hs (by rw [bits_get hi, hk.2])).resolve_left e
    rw [bits_get hj, Option.some.injEq] at h1 h2
    rw [bits_get hj, h1, h2]; rfl
theorem whole_any {l : List (Int × Int)} {f g : Nat → Bool} (hl : ∀ (i : Nat) (s : Int × Int), l[i]? = some s → -1 ≤ s.1 ∧ s.1 < (i : Int)) (hf : WholeP l (bits f l.length)) (hg : WholeP l (bits g l.length)) : WholeP l (bits (fun i => f i || g i) l.length) := by
  intro i s hs hk
  have hi := (List.getElem?_eq_some_iff.1 hs).1
  rw [bits_get hi, Option.some.injEq, Bool.or_eq_true] at hk
  by_cases e : s.1 = -1
  · exact Or.inl e
  · right
    have hb := hl i s hs
    have hj : s.1.toNat < l.length := by omega
    rcases hk with hk | hk
    · have h1 := (hf i s hs (by rw [bits_get hi, hk])).resolve_left e
      rw [bits_get hj, Option.some.injEq] at h1
      rw [bits_get hj, h1]; rfl
    · have h1 := (hg i s hs (by rw [bits_get hi, hk])).resolve_left e
      rw [bits_get hj, Option.some.injEq] at h1
      rw [bits_get hj, h1, Bool.or_true]
theorem is_it (p : Prop) : ∃ b : Bool, b = true ↔ p := by
  by_cases h : p
  · exact ⟨true, by simp [h]⟩
  · exact ⟨false, by simp [h]⟩

set_option maxRecDepth 100000 in
set_option maxHeartbeats 2000000 in
theorem walk (x0 : Sl (Sl Int)) (x1 : Sl Bool) (x2 : Sl Bool) (w : World) (t0 : Tab w x0.a x0.len x0.cap 1 (x0.l.map slC)) (b0 : x0.len * 24 ≤ 140737488351232) (o0 : ∀ z ∈ x0.l, (fun y : Sl Int => Tab w y.a y.len y.cap 1 (y.l.map iC) ∧ y.len * 8 ≤ 140737488351232 ∧ ∀ z ∈ y.l, wfI z) z) (t1 : Tab w x1.a x1.len x1.cap 1 (x1.l.map bC)) (b1 : x1.len * 1 ≤ 140737488351232) (o1 : ∀ z ∈ x1.l, (fun _ => True) z) (t2 : Tab w x2.a x2.len x2.cap 1 (x2.l.map bC)) (b2 : x2.len * 1 ≤ 140737488351232) (o2 : ∀ z ∈ x2.l, (fun _ => True) z) :
    Calls Try.prog 14 #[.slice x0.a x0.len x0.cap, .slice x1.a x1.len x1.cap, .slice x2.a x2.len x2.cap] w fun e w' => e = .returned (.bool true) ∧ Below w.heap.size w w' := by
  obtain ⟨a, len, cap, L⟩ := x0
  obtain ⟨xa, xl, xc, X⟩ := x1
  obtain ⟨ya, yl, yc, Y⟩ := x2
  have hm := t0.hmax
  have hle := t0.hle
  unfold maxLen at hm
  have hmx := t1.hmax
  have hlx := t1.hle
  unfold maxLen at hmx
  have hmy := t2.hmax
  have hly := t2.hle
  unfold maxLen at hmy
  have hb0 : Below w.heap.size w ((w.alloc (.cells #[.int .i64 (-1), .int .i64 0, .int .i64 0, .int .i64 0] 44)).alloc (.cells #[.bool false, .bool true] 4)) := ((Below.refl _ _).alloc (Nat.le_refl _) _).alloc (by simp) _
  have C0 := Lib.hid (whole_ok (some ⟨w.heap.size, 0, none⟩) (some ⟨w.heap.size + 1, 0, none⟩) 2 2 2 2 [((-1 : Int), (0 : Int)), (0, 0)] [false, true] ((w.alloc (.cells #[.int .i64 (-1), .int .i64 0, .int .i64 0, .int .i64 0] 44)).alloc (.cells #[.bool false, .bool true] 4)) ((tab_lit w 44 2 2 ([((-1 : Int), (0 : Int)), (0, 0)].map iiC) #[.int .i64 (-1), .int .i64 0, .int .i64 0, .int .i64 0] rfl rfl (rows_of iiC_len _) (by decide) _ rfl).below ((Below.refl _ _).alloc (Nat.le_refl _) _)) (tab_lit (w.alloc (.cells #[.int .i64 (-1), .int .i64 0, .int .i64 0, .int .i64 0] 44)) 4 1 2 ([false, true].map bC) #[.bool false, .bool true] rfl rfl (rows_of bC_len _) (by decide) _ (by simp)) lit_e false lit_no)
  have C1 := Lib.hid (fun W => whole_ok (some ⟨W.heap.size, 0, none⟩) (some ⟨W.heap.size + 1, 0, none⟩) 2 2 2 2 [((-1 : Int), (0 : Int)), (0, 0)] [true, false] ((W.alloc (.cells #[.int .i64 (-1), .int .i64 0, .int .i64 0, .int .i64 0] 44)).alloc (.cells #[.bool true, .bool false] 4)) ((tab_lit W 44 2 2 ([((-1 : Int), (0 : Int)), (0, 0)].map iiC) #[.int .i64 (-1), .int .i64 0, .int .i64 0, .int .i64 0] rfl rfl (rows_of iiC_len _) (by decide) _ rfl).below ((Below.refl _ _).alloc (Nat.le_refl _) _)) (tab_lit (W.alloc (.cells #[.int .i64 (-1), .int .i64 0, .int .i64 0, .int .i64 0] 44)) 4 1 2 ([true, false].map bC) #[.bool true, .bool false] rfl rfl (rows_of bC_len _) (by decide) _ (by simp)) lit_e true lit_yes)
  have CS := Lib.hid (fun W (hb : Below w.heap.size w W) => spans_any a len cap L 3 W (t0.below hb) (fun z hz => ⟨((o0 z hz).1).below hb, (o0 z hz).2.2⟩) (by decide) (by decide))
  have HOK : Hid (spansE (spansOf 3 (L.take 40)) = 0) := Lib.hid (spansOf_ok (by decide) (by decide) (by rw [List.length_take]; omega))
  have hsl : (spansOf 3 (L.take 40)).length ≤ 40 := by rw [spansOf_len, List.length_take]; omega
  have HTX := Lib.hid t1
  have HTY := Lib.hid t2
  clear t0 o0 t1 t2 o1 o2
  generalize spansOf 3 (L.take 40) = s at *
  go_enter Try.func14, Try.ntmps14
  go_wp2_with fail
  refine C0.out.mono ?_
  rintro e v1 ⟨rfl, hb1⟩
  have HB1 := Lib.hid (below_on hb0 hb1)
  clear hb0 hb1 C0
  have hb1 := (HB1.out.alloc HB1.out.size (.cells #[.int .i64 (-1), .int .i64 0, .int .i64 0, .int .i64 0] 44))
  have HB1' := Lib.hid (hb1.alloc hb1.size (.cells #[.bool true, .bool false] 4))
  clear hb1
  go_wp2_with fail
  refine (C1.out _).mono ?_
  rintro e v2 ⟨rfl, hb2⟩
  have HB2 := Lib.hid (below_on HB1'.out hb2)
  clear hb2 C1 HB1 HB1'
  go_wp2_with fail
  refine (CS.out _ HB2.out).mono ?_
  rintro e v3 ⟨s3, rfl, hO3, hb3⟩
  obtain ⟨q3, cap3, rfl, hT3⟩ := hO3.tab
  rw [List.length_map] at hT3 ⊢
  obtain ⟨n, hn⟩ : ∃ n, s.length = n := ⟨_, rfl⟩
  rw [hn] at hT3 hsl ⊢
  have HT3 := Lib.hid hT3
  have HB3 := Lib.hid (below_on HB2.out hb3)
  have HN := Lib.hid hn
  clear HB2 hb3 hO3 hT3 CS hn
  obtain ⟨f, hf⟩ : ∃ f : Nat → Bool, f = (fun i => X.getD i false) := ⟨_, rfl⟩
  obtain ⟨g, hg⟩ : ∃ g : Nat → Bool, g = (fun i => Y.getD i false) := ⟨_, rfl⟩
  have HF : Hid (∀ i, f i = X.getD i false) := Lib.hid (fun i => by rw [hf])
  have HG : Hid (∀ i, g i = Y.getD i false) := Lib.hid (fun i => by rw [hg])
  clear hf hg
  go_wp2_with fail
  go_loopg [12, 13, 14, 15, 58] n (fun gg a1 a2 a3 a4 i wr => ∃ k : Nat, k + gg = n ∧ i = .int .i64 k ∧ Hid (ManyR wr v3.heap.size 4 1 [(a1, (bits f k).map bC), (a2, (bits g k).map bC), (a3, (bits (fun i => f i && g i) k).map bC), (a4, (bits (fun i => f i || g i) k).map bC)]) ∧ Hid (Below v3.heap.size v3 wr))
  case atStart =>
    refine ⟨0, by omega, rfl, Lib.hid ⟨fun p hp => ?_, ?_⟩, Lib.hid (Below.refl _ _)⟩
    · simp only [List.mem_cons, List.not_mem_nil, or_false] at hp
      rcases hp with rfl | rfl | rfl | rfl <;> exact Own.nil _ _ _ _
    · have nn : ∀ x : Value, Apart x (.slice none 0 0) := fun x => (apart_nil x).symm
      refine List.Pairwise.cons ?_ (List.Pairwise.cons ?_ (List.Pairwise.cons ?_ (List.Pairwise.cons ?_ List.Pairwise.nil)))
      all_goals
        intro q hq
        simp only [List.mem_cons, List.not_mem_nil, or_false] at hq
      · rcases hq with rfl | rfl | rfl <;> exact nn _
      · rcases hq with rfl | rfl <;> exact nn _
      · subst hq; exact nn _
  case round =>
    obtain ⟨k, hk0, rfl, HM, HW⟩ := hrel
    have HJ := Lib.hid hk0
    have hk : k ≤ n := by omega
    clear hk0
    by_cases hlt : k < n
    · have HF1 := Lib.hid (HF.out k)
      have HG1 := Lib.hid (HG.out k)
      have HS1 := Lib.hid (bits_succ f k)
      have HS2 := Lib.hid (bits_succ g k)
      have HS3 := Lib.hid (bits_succ (fun i => f i && g i) k)
      have HS4 := Lib.hid (bits_succ (fun i => f i || g i) k)
      have HL1 : Hid (((bits f k).map bC).length ≤ 40 ∧ ((bits g k).map bC).length ≤ 40 ∧ ((bits (fun i => f i && g i) k).map bC).length ≤ 40 ∧ ((bits (fun i => f i || g i) k).map bC).length ≤ 40) := Lib.hid (by simp only [List.length_map, bits_len]; omega)
      generalize (bits f k).map bC = R1 at *
      generalize (bits g k).map bC = R2 at *
      generalize (bits (fun i => f i && g i) k).map bC = R3 at *
      generalize (bits (fun i => f i || g i) k).map bC = R4 at *
      generalize f k = p at *
      generalize g k = q at *
      go_upto_region 12 with fail
      go_cut [17, 18] (fun s t wx => s = .bool p ∧ t = .bool q ∧ Hid (Below wr.heap.size wr wx))
      case first =>
        have HBX := Lib.hid (below_on HB3.out HW.out)
        by_cases hxl : k < xl
        · obtain ⟨x, hx⟩ : ∃ x, X[k]? = some x := ⟨_, List.getElem?_eq_getElem (by have := HTX.out.hlen; rw [List.length_map] at this; have h' : X.length = xl := this; omega)⟩
          obtain ⟨c1, o1, ha1, hbs1, d1⟩ := HTX.out.one HBX.out (map_get hx)
          obtain rfl : p = x := by rw [HF1.out, List.getD_eq_getElem?_getD, hx]; rfl
          subst ha1
          have hxd : decide ((k : Int) < (xl : Int)) = true := decide_eq_true (by omega)
          clear hx
          by_cases hyl : k < yl
          · obtain ⟨y, hy⟩ : ∃ x, Y[k]? = some x := ⟨_, List.getElem?_eq_getElem (by have := HTY.out.hlen; rw [List.length_map] at this; have h' : Y.length = yl := this; omega)⟩
            obtain ⟨c2, o2, ha2, hbs2, d2⟩ := HTY.out.one HBX.out (map_get hy)
            obtain rfl : q = y := by rw [HG1.out, List.getD_eq_getElem?_getD, hy]; rfl
            subst ha2
            have hyd : decide ((k : Int) < (yl : Int)) = true := decide_eq_true (by omega)
            clear hy
            go_quiet (fail)
            go_wp2_with fail
            go_meet
            case rel => exact ⟨rfl, rfl, Lib.hid (below_drewN (Below.refl _ _) _)⟩
          · obtain rfl : q = false := by rw [HG1.out, List.getD_eq_getElem?_getD, List.getElem?_eq_none (by have := HTY.out.hlen; rw [List.length_map] at this; have h' : Y.length = yl := this; omega)]; rfl
            have hyd : decide ((k : Int) < (yl : Int)) = false := decide_eq_false (by omega)
            have hyn : decide (k < yl) = false := decide_eq_false (by omega)
            clear hyl
            go_quiet (fail)
            go_wp2_with fail
            go_meet
            case rel => exact ⟨rfl, rfl, Lib.hid (below_drewN (Below.refl _ _) _)⟩
        · obtain rfl : p = false := by rw [HF1.out, List.getD_eq_getElem?_getD, List.getElem?_eq_none (by have := HTX.out.hlen; rw [List.length_map] at this; have h' : X.length = xl := this; omega)]; rfl
          have hxd : decide ((k : Int) < (xl : Int)) = false := decide_eq_false (by omega)
          have hxn : decide (k < xl) = false := decide_eq_false (by omega)
          clear hxl
          by_cases hyl : k < yl
          · obtain ⟨y, hy⟩ : ∃ x, Y[k]? = some x := ⟨_, List.getElem?_eq_getElem (by have := HTY.out.hlen; rw [List.length_map] at this; have h' : Y.length = yl := this; omega)⟩
            obtain ⟨c2, o2, ha2, hbs2, d2⟩ := HTY.out.one HBX.out (map_get hy)
            obtain rfl : q = y := by rw [HG1.out, List.getD_eq_getElem?_getD, hy]; rfl
            subst ha2
            have hyd : decide ((k : Int) < (yl : Int)) = true := decide_eq_true (by omega)
            clear hy
            go_quiet (fail)
            go_wp2_with fail
            go_meet
            case rel => exact ⟨rfl, rfl, Lib.hid (below_drewN (Below.refl _ _) _)⟩
          · obtain rfl : q = false := by rw [HG1.out, List.getD_eq_getElem?_getD, List.getElem?_eq_none (by have := HTY.out.hlen; rw [List.length_map] at this; have h' : Y.length = yl := this; omega)]; rfl
            have hyd : decide ((k : Int) < (yl : Int)) = false := decide_eq_false (by omega)
            have hyn : decide (k < yl) = false := decide_eq_false (by omega)
            clear hyl
            go_quiet (fail)
            go_wp2_with fail
            go_meet
            case rel => exact ⟨rfl, rfl, Lib.hid (below_drewN (Below.refl _ _) _)⟩
      case rest =>
      obtain ⟨rfl, rfl, HBC⟩ := hcut
      have HM0 := Lib.hid (HM.out.below HBC.out)
      have HW0 := Lib.hid (below_on HW.out HBC.out)
      clear HF1 HG1 HM HW HBC
      obtain ⟨wd, hwd⟩ : ∃ w', w' = wc := ⟨_, rfl⟩
      subst hwd
      cases p
      · go_wp2_with (first | (at_builtin; refine wpList_append_rows_at _ rfl (.tmp 81) (.tmp 83) 34 rfl v3.heap.size 4 _ 1 1 Try.underlying34 info_bool rfl (by decide) _ R1 rfl ((HM0.out.own (u12, R1) (by simp)).alloc _) ⟨wd.heap.size, 0, none⟩ 1 1 [bC false] rfl rfl (by simp [bC]) (one_row wd (bC false) 4 _ rfl) (by simp [bC, Value.oneCell']) (by have := HL1.out; omega) (by decide) (Nat.le_trans HW0.out.size (by simp)) ?_; intro u1 w1 hO1 hg1 hv1; have HM1 := Lib.hid (ManyR.grow (A := []) (B := [(u13, R2), (u14, R3), (u15, R4)]) (HM0.out.alloc (.cells #[.bool false] 4)) hO1 hg1 hv1); have HWa := Lib.hid ((HM0.out.own (u12, R1) (by simp)).alloc (.cells #[.bool false] 4) |>.under (HW0.out.alloc HW0.out.size _) (Nat.le_refl _) (Nat.le_trans HW0.out.size (by simp)) hg1); clear hO1 hg1 hv1) | (at_builtin; refine wpList_append_rows_at _ rfl (.tmp 85) (.tmp 87) 34 rfl v3.heap.size 4 _ 1 1 Try.underlying34 info_bool rfl (by decide) _ R2 rfl ((HM1.out.own (u13, R2) (by simp)).alloc _) ⟨w1.heap.size, 0, none⟩ 1 1 [bC q] rfl rfl (by simp [bC]) (one_row w1 (bC q) 4 _ rfl) (by simp [bC, Value.oneCell']) (by have := HL1.out; omega) (by decide) (Nat.le_trans HWa.out.size (by simp)) ?_; intro u2 w2 hO2 hg2 hv2; have HM2 := Lib.hid (ManyR.grow (A := [(u1, R1 ++ [bC false])]) (B := [(u14, R3), (u15, R4)]) (HM1.out.alloc (.cells #[.bool q] 4)) hO2 hg2 hv2); have HWb := Lib.hid ((HM1.out.own (u13, R2) (by simp)).alloc (.cells #[.bool q] 4) |>.under (HWa.out.alloc HWa.out.size _) (Nat.le_refl _) (Nat.le_trans HWa.out.size (by simp)) hg2); clear hO2 hg2 hv2) | (at_builtin; refine wpList_append_rows_at _ rfl (.tmp 89) (.tmp 94) 34 rfl v3.heap.size 4 _ 1 1 Try.underlying34 info_bool rfl (by decide) _ R3 rfl ((HM2.out.own (u14, R3) (by simp)).alloc _) ⟨w2.heap.size, 0, none⟩ 1 1 [bC false] rfl rfl (by simp [bC]) (one_row w2 (bC false) 4 _ rfl) (by simp [bC, Value.oneCell']) (by have := HL1.out; omega) (by decide) (Nat.le_trans HWb.out.size (by simp)) ?_; intro u3 w3 hO3 hg3 hv3; have HM3 := Lib.hid (ManyR.grow (A := [(u1, R1 ++ [bC false]), (u2, R2 ++ [bC q])]) (B := [(u15, R4)]) (HM2.out.alloc (.cells #[.bool false] 4)) hO3 hg3 hv3); have HWc := Lib.hid ((HM2.out.own (u14, R3) (by simp)).alloc (.cells #[.bool false] 4) |>.under (HWb.out.alloc HWb.out.size _) (Nat.le_refl _) (Nat.le_trans HWb.out.size (by simp)) hg3); clear hO3 hg3 hv3) | (at_builtin; refine wpList_append_rows_at _ rfl (.tmp 96) (.tmp 101) 34 rfl v3.heap.size 4 _ 1 1 Try.underlying34 info_bool rfl (by decide) _ R4 rfl ((HM3.out.own (u15, R4) (by simp)).alloc _) ⟨w3.heap.size, 0, none⟩ 1 1 [bC q] rfl rfl (by simp [bC]) (one_row w3 (bC q) 4 _ rfl) (by simp [bC, Value.oneCell']) (by have := HL1.out; omega) (by decide) (Nat.le_trans HWc.out.size (by simp)) ?_; intro u4 w4 hO4 hg4 hv4; have HM4 := Lib.hid (ManyR.grow (A := [(u1, R1 ++ [bC false]), (u2, R2 ++ [bC q]), (u3, R3 ++ [bC false])]) (B := []) (HM3.out.alloc (.cells #[.bool q] 4)) hO4 hg4 hv4); have HWd := Lib.hid ((HM3.out.own (u15, R4) (by simp)).alloc (.cells #[.bool q] 4) |>.under (HWc.out.alloc HWc.out.size _) (Nat.le_refl _) (Nat.le_trans HWc.out.size (by simp)) hg4); clear hO4 hg4 hv4))
        go_roundg (n - (k + 1))
        case measure => have := HJ.out; omega
        case rel =>
          refine ⟨k + 1, by omega, by go_num, ?_, HWd⟩
          rw [HS1.out, HS2.out, HS3.out, HS4.out]
          exact HM4
      · go_wp2_with (first | (at_builtin; refine wpList_append_rows_at _ rfl (.tmp 81) (.tmp 83) 34 rfl v3.heap.size 4 _ 1 1 Try.underlying34 info_bool rfl (by decide) _ R1 rfl ((HM0.out.own (u12, R1) (by simp)).alloc _) ⟨wd.heap.size, 0, none⟩ 1 1 [bC true] rfl rfl (by simp [bC]) (one_row wd (bC true) 4 _ rfl) (by simp [bC, Value.oneCell']) (by have := HL1.out; omega) (by decide) (Nat.le_trans HW0.out.size (by simp)) ?_; intro u1 w1 hO1 hg1 hv1; have HM1 := Lib.hid (ManyR.grow (A := []) (B := [(u13, R2), (u14, R3), (u15, R4)]) (HM0.out.alloc (.cells #[.bool true] 4)) hO1 hg1 hv1); have HWa := Lib.hid ((HM0.out.own (u12, R1) (by simp)).alloc (.cells #[.bool true] 4) |>.under (HW0.out.alloc HW0.out.size _) (Nat.le_refl _) (Nat.le_trans HW0.out.size (by simp)) hg1); clear hO1 hg1 hv1) | (at_builtin; refine wpList_append_rows_at _ rfl (.tmp 85) (.tmp 87) 34 rfl v3.heap.size 4 _ 1 1 Try.underlying34 info_bool rfl (by decide) _ R2 rfl ((HM1.out.own (u13, R2) (by simp)).alloc _) ⟨w1.heap.size, 0, none⟩ 1 1 [bC q] rfl rfl (by simp [bC]) (one_row w1 (bC q) 4 _ rfl) (by simp [bC, Value.oneCell']) (by have := HL1.out; omega) (by decide) (Nat.le_trans HWa.out.size (by simp)) ?_; intro u2 w2 hO2 hg2 hv2; have HM2 := Lib.hid (ManyR.grow (A := [(u1, R1 ++ [bC true])]) (B := [(u14, R3), (u15, R4)]) (HM1.out.alloc (.cells #[.bool q] 4)) hO2 hg2 hv2); have HWb := Lib.hid ((HM1.out.own (u13, R2) (by simp)).alloc (.cells #[.bool q] 4) |>.under (HWa.out.alloc HWa.out.size _) (Nat.le_refl _) (Nat.le_trans HWa.out.size (by simp)) hg2); clear hO2 hg2 hv2) | (at_builtin; refine wpList_append_rows_at _ rfl (.tmp 89) (.tmp 94) 34 rfl v3.heap.size 4 _ 1 1 Try.underlying34 info_bool rfl (by decide) _ R3 rfl ((HM2.out.own (u14, R3) (by simp)).alloc _) ⟨w2.heap.size, 0, none⟩ 1 1 [bC q] rfl rfl (by simp [bC]) (one_row w2 (bC q) 4 _ rfl) (by simp [bC, Value.oneCell']) (by have := HL1.out; omega) (by decide) (Nat.le_trans HWb.out.size (by simp)) ?_; intro u3 w3 hO3 hg3 hv3; have HM3 := Lib.hid (ManyR.grow (A := [(u1, R1 ++ [bC true]), (u2, R2 ++ [bC q])]) (B := [(u15, R4)]) (HM2.out.alloc (.cells #[.bool q] 4)) hO3 hg3 hv3); have HWc := Lib.hid ((HM2.out.own (u14, R3) (by simp)).alloc (.cells #[.bool q] 4) |>.under (HWb.out.alloc HWb.out.size _) (Nat.le_refl _) (Nat.le_trans HWb.out.size (by simp)) hg3); clear hO3 hg3 hv3) | (at_builtin; refine wpList_append_rows_at _ rfl (.tmp 96) (.tmp 101) 34 rfl v3.heap.size 4 _ 1 1 Try.underlying34 info_bool rfl (by decide) _ R4 rfl ((HM3.out.own (u15, R4) (by simp)).alloc _) ⟨w3.heap.size, 0, none⟩ 1 1 [bC true] rfl rfl (by simp [bC]) (one_row w3 (bC true) 4 _ rfl) (by simp [bC, Value.oneCell']) (by have := HL1.out; omega) (by decide) (Nat.le_trans HWc.out.size (by simp)) ?_; intro u4 w4 hO4 hg4 hv4; have HM4 := Lib.hid (ManyR.grow (A := [(u1, R1 ++ [bC true]), (u2, R2 ++ [bC q]), (u3, R3 ++ [bC q])]) (B := []) (HM3.out.alloc (.cells #[.bool true] 4)) hO4 hg4 hv4); have HWd := Lib.hid ((HM3.out.own (u15, R4) (by simp)).alloc (.cells #[.bool true] 4) |>.under (HWc.out.alloc HWc.out.size _) (Nat.le_refl _) (Nat.le_trans HWc.out.size (by simp)) hg4); clear hO4 hg4 hv4))
        go_roundg (n - (k + 1))
        case measure => have := HJ.out; omega
        case rel =>
          refine ⟨k + 1, by omega, by go_num, ?_, HWd⟩
          rw [HS1.out, HS2.out, HS3.out, HS4.out]
          exact HM4
    · obtain rfl : k = n := by omega
      have o1 := HM.out.own _ (List.mem_cons_self ..)
      have o2 := HM.out.own _ (List.mem_cons_of_mem _ (List.mem_cons_self ..))
      have o3 := HM.out.own _ (List.mem_cons_of_mem _ (List.mem_cons_of_mem _ (List.mem_cons_self ..)))
      have o4 := HM.out.own _ (List.mem_cons_of_mem _ (List.mem_cons_of_mem _ (List.mem_cons_of_mem _ (List.mem_cons_self ..))))
      simp only at o1 o2 o3 o4
      obtain ⟨q4, c4, rfl, T4⟩ := o1.tab
      obtain ⟨q5, c5, rfl, T5⟩ := o2.tab
      obtain ⟨q6, c6, rfl, T6⟩ := o3.tab
      obtain ⟨q7, c7, rfl, T7⟩ := o4.tab
      rw [List.length_map, bits_len] at T4 T5 T6 T7
      obtain ⟨b1, hb1⟩ := is_it (WholeP s (bits f k))
      obtain ⟨b2, hb2⟩ := is_it (WholeP s (bits g k))
      obtain ⟨b3, hb3⟩ := is_it (WholeP s (bits (fun i => f i && g i) k))
      obtain ⟨b4, hb4⟩ := is_it (WholeP s (bits (fun i => f i || g i) k))
      have hs : ∀ (i : Nat) (x : Int × Int), s[i]? = some x → -1 ≤ x.1 ∧ x.1 < (i : Int) := fun i x hx => by have := (spansE_zero HOK.out).2 i x hx; omega
      have HQ : Hid (b1 = true → b2 = true → b3 = true ∧ b4 = true) := Lib.hid (fun h1 h2 => by
        have g1 := hb1.1 h1
        have g2 := hb2.1 h2
        rw [← HN.out] at g1 g2 hb3 hb4
        exact ⟨hb3.2 (whole_both hs g1 g2), hb4.2 (whole_any hs g1 g2)⟩)
      have hE : keptE s k = 0 := by unfold keptE; rw [HOK.out, if_pos rfl, HN.out, if_pos rfl]
      have D4 := Lib.hid (fun W (hb : Below wr.heap.size wr W) => whole_ok q3 q4 k cap3 k c4 s (bits f k) W ((HT3.out.below HW.out).below hb) (T4.below hb) hE b1 hb1)
      have D5 := Lib.hid (fun W (hb : Below wr.heap.size wr W) => whole_ok q3 q5 k cap3 k c5 s (bits g k) W ((HT3.out.below HW.out).below hb) (T5.below hb) hE b2 hb2)
      have D6 := Lib.hid (fun W (hb : Below wr.heap.size wr W) => whole_ok q3 q6 k cap3 k c6 s (bits (fun i => f i && g i) k) W ((HT3.out.below HW.out).below hb) (T6.below hb) hE b3 hb3)
      have D7 := Lib.hid (fun W (hb : Below wr.heap.size wr W) => whole_ok q3 q7 k cap3 k c7 s (bits (fun i => f i || g i) k) W ((HT3.out.below HW.out).below hb) (T7.below hb) hE b4 hb4)
      rw [List.length_map, List.length_map, List.length_map, List.length_map, bits_len, bits_len, bits_len, bits_len]
      clear o1 o2 o3 o4 T4 T5 T6 T7 hb1 hb2 hb3 hb4 hs hE HM HF HG
      go_wp2_with fail
      refine (D4.out _ (Below.refl _ _)).mono ?_
      rintro e v4 ⟨rfl, hb4⟩
      have HB4 := Lib.hid hb4
      clear hb4 D4
      go_wp2_with fail
      refine (D5.out _ HB4.out).mono ?_
      rintro e v5 ⟨rfl, hb5⟩
      have HB5 := Lib.hid (below_on HB4.out hb5)
      clear hb5 D5 HB4
      go_wp2_with fail
      refine (D6.out _ HB5.out).mono ?_
      rintro e v6 ⟨rfl, hb6⟩
      have HB6 := Lib.hid (below_on HB5.out hb6)
      clear hb6 D6 HB5
      go_wp2_with fail
      refine (D7.out _ HB6.out).mono ?_
      rintro e v7 ⟨rfl, hb7⟩
      have HB7 := Lib.hid (below_on HB6.out hb7)
      clear hb7 D7 HB6
      have hq := HQ.out
      clear HQ
      cases b1
      · clear hq
        go_wp2
        go_ret
        exact ⟨rfl, below_on (below_on HB3.out HW.out) HB7.out⟩
      · cases b2
        · clear hq
          go_wp2
          go_ret
          exact ⟨rfl, below_on (below_on HB3.out HW.out) HB7.out⟩
        · obtain ⟨rfl, rfl⟩ := hq rfl rfl
          clear hq
          go_wp2
          go_ret
          exact ⟨rfl, below_on (below_on HB3.out HW.out) HB7.out⟩

set_option maxRecDepth 100000 in
theorem lifted (os : Os) (started : os.Started) (H : Type) (enc : TypeId × Value → H) :
    ReturnsInHanded {} Try.checked os 14 .any (Rows.spanWholeSpec.pre6 enc Try.prog Try.f14 Rows.spanWholeRow.domain false) (Rows.spanWholeSpec.post enc Try.prog Try.f14 false true false false) := by
  refine returnsInHanded_of_change_sized (C := Try.checked) own started (by kernel_rfl) Try.func14
    (ChangeSpec.witness6 (enc := enc) (C := Try.checked) false ⟨#[], #[.slice none 0 0, .slice none 0 0, .slice none 0 0], []⟩ 8 (by kernel_rfl) (by kernel_rfl) (by kernel_rfl) (by kernel_rfl)) ?_
  intro W base args ds gs before hval0 hW hcnd hsz0 _
  have hval : ∀ (j : Nat) t v, Try.f14.params[j]? = some t → args[j]? = some v → Value.okWide Try.prog W .any base t v := hval0
  have hW' := hW
  obtain ⟨p, q, hA0, hV, rfl, hfz, hnd⟩ := hW
  have hA : DataW.TrodAll enc Try.prog W 0 (fun _ => true) true Try.f14.params.toList args.toList ds p := hA0
  have hsz : (DataW.weightsEach Try.prog (Try.f14.params.toList ++ Rows.spanWholeSpec.plain.varTypes Try.prog) (ds ++ gs)).all (· ≤ reachBytes) = true := hsz0
  rw [Try.params14] at hA hval hsz
  obtain ⟨v0, vs0, d0, ds0, p0, q0, hargs, rfl, rfl, h0, r0⟩ := trodAll_cons hA
  obtain ⟨v1, vs1, d1, ds1, p1, q1, rfl, rfl, rfl, h1, r1⟩ := trodAll_cons r0
  obtain ⟨v2, vs2, d2, ds2, p2, q2, rfl, rfl, rfl, h2, r2⟩ := trodAll_cons r1
  obtain ⟨rfl, rfl, rfl⟩ := trodAll_nil r2
  obtain rfl : args = #[v0, v1, v2] := by cases args; simp_all
  obtain ⟨rfl, rfl⟩ := trodVars_none hV
  have k0 := h0
  have L0 := light_of hsz (j := 0) (t := 57) (d := d0) rfl rfl
  have lt0 : ∀ x ∈ p0, x.block < W.heap.size := by obtain ⟨m, hm⟩ := k0; exact DataW.trod_lt m _ _ _ hm
  obtain ⟨a0, len0, cap0, rfl⟩ := okWide_slice Try.underlying57 (hval 0 57 v0 rfl rfl)
  obtain ⟨n0, f0⟩ := trod_slice_of Try.underlying57 h0
  have F0 := And.intro f0 L0
  obtain ⟨x0, e0, t0, b0, o0⟩ := el_slice (w := W) (k := 1) slC (fun y : Sl Int => Tab W y.a y.len y.cap 1 (y.l.map iC) ∧ y.len * 8 ≤ 140737488351232 ∧ ∀ z ∈ y.l, wfI z) (by decide) Try.underlying57 (by kernel_rfl) (el_slice (k := 1) iC wfI (by decide) Try.underlying22 (by kernel_rfl) (el_int Try.underlying3) (B := 8) (by kernel_rfl)) (B := 24) (by kernel_rfl) _ _ _ F0.1 F0.2
  simp only [slC, List.cons.injEq, Value.slice.injEq, and_true] at e0
  obtain ⟨rfl, rfl, rfl⟩ := e0
  have k1 := h1
  have L1 := light_of hsz (j := 1) (t := 34) (d := d1) rfl rfl
  have lt1 : ∀ x ∈ p1, x.block < W.heap.size := by obtain ⟨m, hm⟩ := k1; exact DataW.trod_lt m _ _ _ hm
  obtain ⟨a1, len1, cap1, rfl⟩ := okWide_slice Try.underlying34 (hval 1 34 v1 rfl rfl)
  obtain ⟨n1, f1⟩ := trod_slice_of Try.underlying34 h1
  have F1 := And.intro f1 L1
  obtain ⟨x1, e1, t1, b1, o1⟩ := el_slice (w := W) (k := 1) bC (fun _ => True) (by decide) Try.underlying34 (by kernel_rfl) (el_bool Try.underlying4) (B := 1) (by kernel_rfl) _ _ _ F1.1 F1.2
  simp only [slC, List.cons.injEq, Value.slice.injEq, and_true] at e1
  obtain ⟨rfl, rfl, rfl⟩ := e1
  have k2 := h2
  have L2 := light_of hsz (j := 2) (t := 34) (d := d2) rfl rfl
  have lt2 : ∀ x ∈ p2, x.block < W.heap.size := by obtain ⟨m, hm⟩ := k2; exact DataW.trod_lt m _ _ _ hm
  obtain ⟨a2, len2, cap2, rfl⟩ := okWide_slice Try.underlying34 (hval 2 34 v2 rfl rfl)
  obtain ⟨n2, f2⟩ := trod_slice_of Try.underlying34 h2
  have F2 := And.intro f2 L2
  obtain ⟨x2, e2, t2, b2, o2⟩ := el_slice (w := W) (k := 1) bC (fun _ => True) (by decide) Try.underlying34 (by kernel_rfl) (el_bool Try.underlying4) (B := 1) (by kernel_rfl) _ _ _ F2.1 F2.2
  simp only [slC, List.cons.injEq, Value.slice.injEq, and_true] at e2
  obtain ⟨rfl, rfl, rfl⟩ := e2
  clear hA0 hval0
  refine (walk x0 x1 x2 W t0 b0 o0 t1 b1 o1 t2 b2 o2).mono fun e W' ⟨he, hg⟩ => ?_
  subst he
  exact ⟨_, rfl, _, _, _, [], _, [], hW', trodAll_mk1 (shut_bool Try.underlying4 _), (trodAll_cons_mk (Below.trod laidOut (by kernel_rfl) (of_decide_eq_true (by kernel_rfl)) k0 hg lt0) (trodAll_cons_mk (Below.trod laidOut (by kernel_rfl) (of_decide_eq_true (by kernel_rfl)) k1 hg lt1) (trodAll_cons_mk (Below.trod laidOut (by kernel_rfl) (of_decide_eq_true (by kernel_rfl)) k2 hg lt2) trodAll_mk0))), rfl, hg.frame _, fun h => by cases h⟩

theorem over : Rows.spanWholeRow.holds Try.pinned (OpenSpec.ofChange Rows.spanWholeSpec) :=
  OpenClaim.holds_of_wide 14 Try.f14 rfl rfl rfl rfl rfl rfl rfl ⟨rfl, rfl, rfl, rfl, rfl⟩ rfl rfl rfl rfl rfl (by kernel_rfl) Try.func14 (by kernel_rfl)
    (of_decide_eq_true (by kernel_rfl)) (by unfold Func.isWrapper; first | (rw [if_pos (by decide +kernel)]; kernel_rfl) | (rw [if_neg (by decide +kernel)]; exact ⟨rfl, rfl⟩))
    (fun os started H enc _ => lifted os started H enc)

/-- ████ THE STATEMENT ████ -/
theorem proved : Rows.SpanWholeSaid :=
  over
#print axioms proved
end Go.Proofs.Yteddoccgbebbeaa.spanWhole
