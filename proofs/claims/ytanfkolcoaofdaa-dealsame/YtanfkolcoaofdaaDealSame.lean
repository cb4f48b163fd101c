/-
  'Rows.DealSameSaid' is proved: dealt are the same things, and who draws his own place each time changes nothing. No condition.
-/
import Derived.Test.YtanfkolcoaofdaaRows
import Derived.Test.YtanfkolcoaofdaaShapes
import Derived.Test.YtanfkolcoaofdaaWithin
import Derived.Test.YtanfkolcoaofdaaDigitDeal
import Derived.Test.YtanfkolcoaofdaaDrawList
import Derived.Test.YtanfkolcoaofdaaOwnTwo
import Derived.Test.YtanfkolcoaofdaaSubSlice
import Derived.Test.YtanfkolcoaofdaaEqualInts
import Derived.Test.YtanfkolcoaofdaaLit
import Derived.Test.YtanfkolcoaofdaaRefSorted
import Derived.Deep.DeepCutAuto
import Derived.Deep.LoopGhost
import Derived.WalkKit
import Derived.ProofKit
import Derived.OpenShut
import Derived.ShutString
import Derived.ChangeOld
import Derived.Below
namespace Go.Proofs.Ytanfkolcoaofdaa.dealSame
open Go.ChangeShapes Go.WideShapes Go.ChangeAt Go.RowKit
open Go.ChangeMaps (open_string shut_string)
set_option linter.unusedVariables false

theorem own : ownKnob Try.prog.godebug = none := by kernel_rfl
theorem laidOut : laidOutB Try.prog = true := by kernel_rfl

open Digit
theorem same_start : dealTo [7, 8] [0, 1] 2 = [7, 8] := by decide +kernel
theorem same_draws : DrawsOk [0, 1] := drawsB_ok.1 (by decide)
theorem size_int (w : World) : (sizeOf 3).run Try.prog w = .ok 1 w := by kernel_rfl
theorem elem_int : Try.prog.elem 22 = 3 := by kernel_rfl
theorem set_pad {A : List Int} {k n : Nat} (hA : A.length = k) (h : k < n) (x : Int) : (A ++ List.replicate (n - k) (0 : Int)).set k x = (A ++ [x]) ++ List.replicate (n - (k + 1)) 0 := by
  rw [List.set_append_right _ _ (by omega), hA, Nat.sub_self, show n - k = n - (k + 1) + 1 from by omega, List.replicate_succ, List.set_cons_zero, List.append_assoc]
  rfl
theorem pad_zero {A : List Int} {k n : Nat} (h : k < n) : A ++ List.replicate (n - k) (0 : Int) = (A ++ [0]) ++ List.replicate (n - (k + 1)) 0 := by
  rw [show n - k = n - (k + 1) + 1 from by omega, List.replicate_succ, List.append_assoc]
  rfl
theorem row_draws (n : Nat) : DrawsOk (rowOf n) := by
  intro i x hx
  have hi : i < n := by have := (List.getElem?_eq_some_iff.1 hx).1; rwa [rowOf_len] at this
  rw [rowOf_get hi] at hx
  obtain rfl := Option.some.inj hx
  omega

set_option maxRecDepth 100000 in
set_option maxHeartbeats 2000000 in
theorem walk (x0 : Sl Int) (x1 : Sl Int) (w : World) (t0 : Tab w x0.a x0.len x0.cap 1 (x0.l.map iC)) (b0 : x0.len * 8 ≤ 140737488351232) (o0 : ∀ z ∈ x0.l, wfI z) (t1 : Tab w x1.a x1.len x1.cap 1 (x1.l.map iC)) (b1 : x1.len * 8 ≤ 140737488351232) (o1 : ∀ z ∈ x1.l, wfI z) :
    Calls Try.prog 8 #[.slice x0.a x0.len x0.cap, .slice x1.a x1.len x1.cap] w fun e w' => e = .returned (.bool true) ∧ Below w.heap.size w w' := by
  obtain ⟨a, len, cap, L⟩ := x0
  obtain ⟨a', len', cap', DS⟩ := x1
  obtain ⟨i0, hi, hz0, hz1, hz2⟩ := info_parts info_int
  have hm := t0.hmax
  have hle := t0.hle
  have hm' := t1.hmax
  have hle' := t1.hle
  unfold maxLen at hm hm'
  have HT := Lib.hid t0
  have HT' := Lib.hid t1
  have HO' := Lib.hid o1
  have HI := Lib.hid (And.intro hi (And.intro hz0 (And.intro hz1 hz2)))
  clear t0 o0 b0 t1 o1 b1 hi hz0 hz1 hz2
  have C0 := deal_ok (some ⟨w.heap.size, 0, none⟩) (some ⟨w.heap.size + 1, 0, none⟩) 2 2 2 2 [7, 8] [0, 1] ((w.alloc (.cells #[.int .i64 7, .int .i64 8] 3)).alloc (.cells #[.int .i64 0, .int .i64 1] 3))
    ((tab_lit w 3 1 2 ([(7 : Int), 8].map iC) #[.int .i64 7, .int .i64 8] rfl rfl (rows_of iC_len _) (by decide) _ rfl).below ((Below.refl _ _).alloc (Nat.le_refl _) _)) (tab_lit _ 3 1 2 ([(0 : Int), 1].map iC) #[.int .i64 0, .int .i64 1] rfl rfl (rows_of iC_len _) (by decide) _ (by simp)) (by decide) rfl same_draws
  rw [show ([7, 8] : List Int).length = 2 from rfl, same_start] at C0
  have C0 := Lib.hid C0
  go_enter Try.func8, Try.ntmps8
  go_wp2_with fail
  refine C0.out.mono ?_
  rintro e v1 ⟨s1, rfl, hO1, hb1⟩
  clear C0
  obtain ⟨a1', cap1, rfl, hT1⟩ := hO1.tab
  have E1 := Lib.hid (equal_ints a1' (some ⟨v1.heap.size, 0, none⟩) 2 cap1 2 2 [7, 8] [7, 8] (v1.alloc (.cells #[.int .i64 7, .int .i64 8] 3))
    (hT1.below ((Below.refl _ _).alloc (Nat.le_refl _) _)) (tab_lit _ _ 1 2 ([(7 : Int), 8].map iC) #[.int .i64 7, .int .i64 8] rfl rfl (rows_of iC_len _) (by decide) _ rfl) true (by simp))
  have hb0 : Below w.heap.size w ((w.alloc (.cells #[.int .i64 7, .int .i64 8] 3)).alloc (.cells #[.int .i64 0, .int .i64 1] 3)) := ((Below.refl _ _).alloc (Nat.le_refl _) _).alloc (by simp) _
  have HB1 := Lib.hid (below_on (below_on hb0 hb1) ((Below.refl v1.heap.size v1).alloc (Nat.le_refl _) (.cells #[.int .i64 7, .int .i64 8] 3)))
  clear hO1 hT1 hb1 hb0
  go_wp2_with fail
  refine E1.out.mono ?_
  rintro e v2 ⟨rfl, hb2⟩
  have HB2 := Lib.hid (below_on HB1.out hb2)
  clear E1 HB1 hb2
  obtain ⟨n, hn⟩ : ∃ n, min len 12 = n := ⟨_, rfl⟩
  have hn1 : n ≤ len := by omega
  have hn2 : n ≤ 12 := by omega
  go_upto_region 4 with fail
  go_cut [0] (fun s wx => s = .slice a n cap ∧ wx = v2)
  case first =>
    have rU := run_upto 22 3 1 Try.underlying22 elem_int size_int a len cap n (by omega)
    by_cases h12 : len ≤ 12
    · obtain rfl : n = len := by omega
      clear hn
      go_wp2_with fail
      go_meet
      case rel => exact ⟨rfl, rfl⟩
    · obtain rfl : n = 12 := by omega
      have h12' : 12 < len := by omega
      clear hn h12
      go_wp2_with fail
      go_meet
      case rel => exact ⟨rfl, rfl⟩
  case rest =>
  obtain ⟨rfl, rfl⟩ := hcut
  clear hn
  obtain ⟨W0, hW0⟩ : ∃ W0, W0 = wc := ⟨_, rfl⟩
  subst hW0
  have HTn : Hid (Tab W0 a n cap 1 ((L.take n).map iC)) := by
    have := HT.out.upto_ n hn1
    rw [← List.map_take] at this
    exact Lib.hid (this.below HB2.out)
  have HTd := Lib.hid (HT'.out.below HB2.out)
  have HLn : Hid ((L.take n).length = n) := by have := HTn.out.hlen; rwa [List.length_map] at this
  have HLd : Hid (DS.length = len') := by have := HTd.out.hlen; rwa [List.length_map] at this
  clear HT HT' hn1 hm hle
  generalize L.take n = LL at *
  go_wp2_with (first | (at_make; refine wpList_make_full _ rfl _ _ 22 rfl W0.heap.size 3 i0 (.int .i64 0) 1 Try.underlying22 HI.out.1 HI.out.2.1 HI.out.2.2.1 _ _ _ _ n rfl rfl rfl rfl (by rw [HI.out.2.2.2]; omega) (by unfold maxLen; omega) (Nat.le_refl _) ?_; intro w1 hO1 hg1) | (at_make; refine wpList_make_full _ rfl _ _ 22 rfl w1.heap.size 3 i0 (.int .i64 0) 1 Try.underlying22 HI.out.1 HI.out.2.1 HI.out.2.2.1 _ _ _ _ n rfl rfl rfl rfl (by rw [HI.out.2.2.2]; omega) (by unfold maxLen; omega) (Nat.le_refl _) ?_; intro w2 hO2 hg2))
  have hP0 := Own.full hO1 (made_ints n)
  have hQ : Own w2 w1.heap.size 3 1 (.slice (some ⟨w1.heap.size, 0, none⟩) n n) ((drawList DS 0 ++ List.replicate (n - 0) 0).map iC) := Own.full hO2 (made_ints n)
  have hs1 : W0.heap.size < w1.heap.size := (hP0.own.lt _ rfl).2
  have hP : Own w2 W0.heap.size 3 1 (.slice (some ⟨W0.heap.size, 0, none⟩) n n) ((rowOf 0 ++ List.replicate (n - 0) 0).map iC) := hP0.keptBy hg2 (Or.inr (by simp [Value.ownBlock]))
  have hb2 : Below W0.heap.size W0 w2 := ((Below.refl _ _).grown hg1 (Nat.le_refl _) (fun j hj => by cases hj)).grown hg2 (by omega) (fun j hj => by cases hj)
  have HPQ := Lib.hid (And.intro hP hQ)
  clear hP0 hP hQ hO1 hO2 hg1 hg2 HI
  generalize w1.heap.size = G2 at *
  generalize hG1 : W0.heap.size = G1 at *
  have HG1 := Lib.hid hG1
  clear hG1
  have ap : Apart (.slice (some ⟨G1, 0, none⟩) n n) (.slice (some ⟨G2, 0, none⟩) n n) := fun g h1 h2 => by simp [Value.ownBlock] at h1 h2; omega
  have HAP := Lib.hid ap
  clear ap
  go_loopg [41] n (fun g i wr => ∃ k : Nat, k + g = n ∧ i = .int .i64 k ∧ Hid (Own wr G1 3 1 (.slice (some ⟨G1, 0, none⟩) n n) ((rowOf k ++ List.replicate (n - k) 0).map iC) ∧ Own wr G2 3 1 (.slice (some ⟨G2, 0, none⟩) n n) ((drawList DS k ++ List.replicate (n - k) 0).map iC)) ∧ Below G1 W0 wr)
  case atStart => exact ⟨0, by omega, rfl, HPQ, hb2⟩
  case round =>
    clear hb2 HPQ
    obtain ⟨k, hk0, rfl, HO, hb⟩ := hrel
    have HJ := Lib.hid hk0
    have hk : k ≤ n := by omega
    clear hk0
    have hbW : Hid (Below W0.heap.size W0 wr) := by rw [HG1.out]; exact hb
    by_cases hlt : k < n
    · obtain ⟨hOv, hOu⟩ := HO.out
      obtain ⟨y, hy⟩ : ∃ y, (rowOf k ++ List.replicate (n - k) (0 : Int))[k]? = some y := ⟨_, List.getElem?_eq_getElem (by rw [List.length_append, rowOf_len]; simp; omega)⟩
      obtain ⟨z0, hz0⟩ : ∃ y, (drawList DS k ++ List.replicate (n - k) (0 : Int))[k]? = some y := ⟨_, List.getElem?_eq_getElem (by rw [List.length_append, drawList_len]; simp; omega)⟩
      obtain ⟨c1, f1, p1, p1'⟩ := hOv.at1 (map_get hy)
      have hOv2 := hOv.set1 (map_get hy) (.int .i64 (k : Nat))
      rw [← show iC ((k : Nat) : Int) = [Value.int .i64 ((k : Nat) : Int)] from rfl, ← List.map_set, set_pad (rowOf_len k) hlt, ← rowOf_succ] at hOv2
      have hOu2 := hOu.beside (i := k) HAP.out rfl (.int .i64 (k : Nat))
      obtain ⟨c2, f2, p2, p2'⟩ := hOu2.at1 (map_get hz0)
      have hbs2 : Below G1 W0 (wr.setCell ⟨G1, k, none⟩ (.int .i64 (k : Nat))) := hb.setCell (Nat.le_refl _) _
      have HH := Lib.hid (And.intro hOv2 (And.intro hOu2 (And.intro hbs2 (map_get (f := iC) hz0))))
      clear hy hz0 hOv hOu hOv2 hOu2 HO hbs2
      obtain ⟨wo, hwo⟩ : ∃ wo, wo = wr := ⟨_, rfl⟩
      subst hwo
      by_cases hdr : k < len'
      · obtain ⟨z, hz⟩ : ∃ z, DS[k]? = some z := ⟨_, List.getElem?_eq_getElem (by rw [HLd.out]; exact hdr)⟩
        have hbS : Below W0.heap.size W0 (wo.setCell ⟨G1, k, none⟩ (.int .i64 (k : Nat))) := by rw [HG1.out]; exact HH.out.2.2.1
        obtain ⟨b1, o1, ha, hbs, c0⟩ := HTd.out.one hbS (map_get hz)
        have hwz := wf_i64 (HO'.out z (List.mem_of_getElem? hz))
        have HZ : Hid (drawAt DS k = withI z ((k : Int) + 1)) := Lib.hid (drawAt_some hz)
        subst ha
        clear hz hbS
        have HS : Hid (Own ((wo.setCell ⟨G1, k, none⟩ (.int .i64 (k : Nat))).setCell ⟨G2, k, none⟩ (.int .i64 (withI z ((k : Int) + 1)))) G2 3 1 (.slice (some ⟨G2, 0, none⟩) n n) ((drawList DS (k + 1) ++ List.replicate (n - (k + 1)) 0).map iC)) := by
          have h := HH.out.2.1.set1 HH.out.2.2.2 (.int .i64 (withI z ((k : Int) + 1)))
          rw [← show iC (withI z ((k : Int) + 1)) = [Value.int .i64 (withI z ((k : Int) + 1))] from rfl, ← List.map_set, set_pad (drawList_len DS k) hlt, ← HZ.out, ← drawList_succ] at h
          rw [← HZ.out]
          exact Lib.hid h
        have HS2 := Lib.hid (HH.out.1.beside (i := k) HAP.out.symm rfl (.int .i64 (withI z ((k : Int) + 1))))
        have HS3 : Hid (Below G1 W0 ((wo.setCell ⟨G1, k, none⟩ (.int .i64 (k : Nat))).setCell ⟨G2, k, none⟩ (.int .i64 (withI z ((k : Int) + 1))))) := Lib.hid (HH.out.2.2.1.setCell (by show G1 ≤ G2; omega) _)
        have HW := Lib.hid (fun w => within_int z ((k : Int) + 1) w hwz (by omega) (by omega))
        clear HZ
        generalize withI z ((k : Int) + 1) = dd at *
        go_wp2_with fail
        refine (HW.out _).mono ?_
        rintro e v4 ⟨rfl, rfl⟩
        go_wp2
        go_roundg (n - (k + 1))
        case measure => have := HJ.out; omega
        case rel => exact ⟨k + 1, by omega, by go_num, Lib.hid ⟨HS2.out, HS.out⟩, HS3.out⟩
      · have hdr' : len' ≤ k := by omega
        clear hdr
        go_wp2
        go_roundg (n - (k + 1))
        case measure => have := HJ.out; omega
        case rel =>
          refine ⟨k + 1, by omega, by go_num, Lib.hid ⟨HH.out.1, ?_⟩, HH.out.2.2.1⟩
          have h := HH.out.2.1
          rw [pad_zero hlt] at h
          rw [drawList_succ, drawAt_none (by rw [HLd.out]; exact hdr')]
          exact h
    · obtain rfl : k = n := by omega
      obtain ⟨hOv, hOu⟩ := HO.out
      rw [Nat.sub_self, List.replicate_zero, List.append_nil] at hOv hOu
      have hTL := HTn.out.below hbW.out
      have D1 := deal_ok a (some ⟨G2, 0, none⟩) k cap k k LL (drawList DS k) wr hTL hOu.tab_of (by rw [HLn.out]; exact hn2) (by rw [drawList_len, HLn.out]) (drawList_ok DS k)
      have hper := deal_perm (l := LL) (drawList_ok DS k) (by rw [drawList_len, HLn.out]) LL.length (Nat.le_refl _)
      have hlen1 := deal_len LL (drawList DS k) LL.length
      rw [HLn.out] at D1 hper hlen1
      have D2 := Lib.hid (fun (W : World) (h : Tab W a k cap 1 (LL.map iC)) (h' : Tab W (some ⟨G1, 0, none⟩) k k 1 ((rowOf k).map iC)) => deal_ok a (some ⟨G1, 0, none⟩) k cap k k LL (rowOf k) W h h' (by rw [HLn.out]; exact hn2) (by rw [rowOf_len, HLn.out]) (row_draws k))
      rw [deal_own (fun i hi => rowOf_get (by rw [HLn.out] at hi; exact hi)) LL.length (Nat.le_refl _)] at D2
      have HP := Lib.hid (And.intro hper hlen1)
      generalize dealTo LL (drawList DS k) k = X at *
      have D1 := Lib.hid D1
      have HTv := Lib.hid hOv.tab_of
      have HTL := Lib.hid hTL
      clear hOv hOu hTL hper hlen1 HO hb HTn
      go_wp2_with fail
      refine D1.out.mono ?_
      rintro e v4 ⟨s4, rfl, hO4, hb4⟩
      obtain ⟨a4, cap4, rfl, hT4⟩ := hO4.tab
      have l4 : (X.map iC).length = k := by rw [List.length_map]; exact HP.out.2
      rw [l4] at hT4 ⊢
      have HT4 := Lib.hid hT4
      have HTL4 := Lib.hid (HTL.out.below hb4)
      have D2' := Lib.hid (D2.out v4 HTL4.out (HTv.out.below hb4))
      have HB4 := Lib.hid (below_on hbW.out hb4)
      clear hO4 hT4 l4 D1 D2 hb4 HTv HTL hbW
      go_wp2_with fail
      refine D2'.out.mono ?_
      rintro e v5 ⟨s5, rfl, hO5, hb5⟩
      obtain ⟨a5, cap5, rfl, hT5⟩ := hO5.tab
      have l5 : (LL.map iC).length = k := by rw [List.length_map]; exact HLn.out
      rw [l5] at hT5 ⊢
      have HTL5 := Lib.hid (HTL4.out.below hb5)
      have HT45 := Lib.hid (HT4.out.below hb5)
      have E5 := Lib.hid (equal_ints a5 a k cap5 k cap LL LL v5 hT5 HTL5.out true (by simp))
      have HB5 := Lib.hid (below_on HB2.out (below_on HB4.out hb5))
      clear hO5 hT5 l5 D2' hb5 HT4 HB4 HB2 HTL4
      go_wp2_with fail
      refine E5.out.mono ?_
      rintro e v6 ⟨rfl, hb6⟩
      have S1 := Lib.hid (refSorted_any a4 k cap4 X v6 (HT45.out.below hb6) hn2)
      have HTL6 := Lib.hid (HTL5.out.below hb6)
      have HB6 := Lib.hid (below_on HB5.out hb6)
      clear E5 hb6 HT45 HTL5 HB5
      go_wp2_with fail
      refine S1.out.mono ?_
      rintro e v7 ⟨s7, o7, rfl, hs7, hO7, hb7⟩
      obtain ⟨a7, cap7, rfl, hT7⟩ := hO7.tab
      have l7 : (o7.map iC).length = k := by rw [List.length_map, hs7.1]; exact HP.out.2
      rw [l7] at hT7 ⊢
      have S2 := Lib.hid (refSorted_any a k cap LL v7 (HTL6.out.below hb7) hn2)
      have HT7 := Lib.hid hT7
      have HS7 := Lib.hid hs7
      have HB7 := Lib.hid (below_on HB6.out hb7)
      clear S1 hs7 hO7 hT7 l7 hb7 HB6 HTL6
      go_wp2_with fail
      refine S2.out.mono ?_
      rintro e v8 ⟨s8, o8, rfl, hs8, hO8, hb8⟩
      obtain ⟨a8, cap8, rfl, hT8⟩ := hO8.tab
      have l8 : (o8.map iC).length = k := by rw [List.length_map, hs8.1]; exact HLn.out
      rw [l8] at hT8 ⊢
      have ho : o7 = o8 := sorted_one (sorted_perm HP.out.1 HS7.out) hs8
      have E8 := Lib.hid (equal_ints a7 a8 k cap7 k cap8 o7 o8 v8 (HT7.out.below hb8) hT8 true (by simpa using ho))
      have HB8 := Lib.hid (below_on HB7.out hb8)
      clear S2 hs8 hO8 hT8 l8 hb8 HB7 ho HS7 HT7
      go_wp2_with fail
      refine E8.out.mono ?_
      rintro e v9 ⟨rfl, hb9⟩
      go_wp2
      go_ret
      exact ⟨rfl, below_on HB8.out hb9⟩

set_option maxRecDepth 100000 in
theorem lifted (os : Os) (started : os.Started) (H : Type) (enc : TypeId × Value → H) :
    ReturnsInHanded {} Try.checked os 8 .any (Rows.dealSameSpec.pre6 enc Try.prog Try.f8 Rows.dealSameRow.domain false) (Rows.dealSameSpec.post enc Try.prog Try.f8 false true false false) := by
  refine returnsInHanded_of_change_sized (C := Try.checked) own started (by kernel_rfl) Try.func8
    (ChangeSpec.witness6 (enc := enc) (C := Try.checked) false ⟨#[], #[.slice none 0 0, .slice none 0 0], []⟩ 8 (by kernel_rfl) (by kernel_rfl) (by kernel_rfl) (by kernel_rfl)) ?_
  intro W base args ds gs before hval0 hW hcnd hsz0 _
  have hval : ∀ (j : Nat) t v, Try.f8.params[j]? = some t → args[j]? = some v → Value.okWide Try.prog W .any base t v := hval0
  have hW' := hW
  obtain ⟨p, q, hA0, hV, rfl, hfz, hnd⟩ := hW
  have hA : DataW.TrodAll enc Try.prog W 0 (fun _ => true) true Try.f8.params.toList args.toList ds p := hA0
  have hsz : (DataW.weightsEach Try.prog (Try.f8.params.toList ++ Rows.dealSameSpec.plain.varTypes Try.prog) (ds ++ gs)).all (· ≤ reachBytes) = true := hsz0
  rw [Try.params8] at hA hval hsz
  obtain ⟨v0, vs0, d0, ds0, p0, q0, hargs, rfl, rfl, h0, r0⟩ := trodAll_cons hA
  obtain ⟨v1, vs1, d1, ds1, p1, q1, rfl, rfl, rfl, h1, r1⟩ := trodAll_cons r0
  obtain ⟨rfl, rfl, rfl⟩ := trodAll_nil r1
  obtain rfl : args = #[v0, v1] := by cases args; simp_all
  obtain ⟨rfl, rfl⟩ := trodVars_none hV
  have k0 := h0
  have L0 := light_of hsz (j := 0) (t := 22) (d := d0) rfl rfl
  have lt0 : ∀ x ∈ p0, x.block < W.heap.size := by obtain ⟨m, hm⟩ := k0; exact DataW.trod_lt m _ _ _ hm
  obtain ⟨a0, len0, cap0, rfl⟩ := okWide_slice Try.underlying22 (hval 0 22 v0 rfl rfl)
  obtain ⟨n0, f0⟩ := trod_slice_of Try.underlying22 h0
  have F0 := And.intro f0 L0
  obtain ⟨x0, e0, t0, b0, o0⟩ := el_slice (w := W) (k := 1) iC wfI (by decide) Try.underlying22 (by kernel_rfl) (el_int Try.underlying3) (B := 8) (by kernel_rfl) _ _ _ F0.1 F0.2
  simp only [slC, List.cons.injEq, Value.slice.injEq, and_true] at e0
  obtain ⟨rfl, rfl, rfl⟩ := e0
  have k1 := h1
  have L1 := light_of hsz (j := 1) (t := 22) (d := d1) rfl rfl
  have lt1 : ∀ x ∈ p1, x.block < W.heap.size := by obtain ⟨m, hm⟩ := k1; exact DataW.trod_lt m _ _ _ hm
  obtain ⟨a1, len1, cap1, rfl⟩ := okWide_slice Try.underlying22 (hval 1 22 v1 rfl rfl)
  obtain ⟨n1, f1⟩ := trod_slice_of Try.underlying22 h1
  have F1 := And.intro f1 L1
  obtain ⟨x1, e1, t1, b1, o1⟩ := el_slice (w := W) (k := 1) iC wfI (by decide) Try.underlying22 (by kernel_rfl) (el_int Try.underlying3) (B := 8) (by kernel_rfl) _ _ _ F1.1 F1.2
  simp only [slC, List.cons.injEq, Value.slice.injEq, and_true] at e1
  obtain ⟨rfl, rfl, rfl⟩ := e1
  clear hA0 hval0
  refine (walk x0 x1 W t0 b0 o0 t1 b1 o1).mono fun e W' ⟨he, hg⟩ => ?_
  subst he
  exact ⟨_, rfl, _, _, _, [], _, [], hW', trodAll_mk1 (shut_bool Try.underlying4 _), (trodAll_cons_mk (Below.trod laidOut (by kernel_rfl) (of_decide_eq_true (by kernel_rfl)) k0 hg lt0) (trodAll_cons_mk (Below.trod laidOut (by kernel_rfl) (of_decide_eq_true (by kernel_rfl)) k1 hg lt1) trodAll_mk0)), rfl, hg.frame _, fun h => by cases h⟩

theorem over : Rows.dealSameRow.holds Try.pinned (OpenSpec.ofChange Rows.dealSameSpec) :=
  OpenClaim.holds_of_wide 8 Try.f8 rfl rfl rfl rfl rfl rfl rfl ⟨rfl, rfl, rfl, rfl, rfl⟩ rfl rfl rfl rfl rfl (by kernel_rfl) Try.func8 (by kernel_rfl)
    (of_decide_eq_true (by kernel_rfl)) (by unfold Func.isWrapper; first | (rw [if_pos (by decide +kernel)]; kernel_rfl) | (rw [if_neg (by decide +kernel)]; exact ⟨rfl, rfl⟩))
    (fun os started H enc _ => lifted os started H enc)

/-- ████ THE STATEMENT ████ -/
theorem proved : Rows.DealSameSaid :=
  over
#print axioms proved
end Go.Proofs.Ytanfkolcoaofdaa.dealSame
