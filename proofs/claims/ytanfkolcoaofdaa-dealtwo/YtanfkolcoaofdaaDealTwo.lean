/-
  'Rows.DealTwoSaid' is proved: another last draw changes at most three places of what is dealt. No condition.
-/
import Derived.Test.YtanfkolcoaofdaaRows
import Derived.Test.YtanfkolcoaofdaaShapes
import Derived.Test.YtanfkolcoaofdaaWithin
import Derived.Test.YtanfkolcoaofdaaDigitDeal
import Derived.Test.YtanfkolcoaofdaaDrawList
import Derived.Test.YtanfkolcoaofdaaOwnTwo
import Derived.Test.YtanfkolcoaofdaaSubSlice
import Derived.Test.YtanfkolcoaofdaaEqualInts
import Derived.Test.YtanfkolcoaofdaaLit
import Derived.Deep.DeepCutAuto
import Derived.Deep.LoopGhost
import Derived.BigQuiet
import Derived.WalkKit
import Derived.ProofKit
import Derived.OpenShut
import Derived.ShutString
import Derived.ChangeOld
import Derived.Below
namespace Go.Proofs.Ytanfkolcoaofdaa.dealTwo
open Go.ChangeShapes Go.WideShapes Go.ChangeAt Go.RowKit
open Go.ChangeMaps (open_string shut_string)
set_option linter.unusedVariables false

theorem own : ownKnob Try.prog.godebug = none := by kernel_rfl
theorem laidOut : laidOutB Try.prog = true := by kernel_rfl

open Digit
theorem two_start : dealTo [7, 8, 9] [0, 1, 0] 3 = [9, 8, 7] := by decide +kernel
theorem two_draws : DrawsOk [0, 1, 0] := drawsB_ok.1 (by decide)
theorem size_int (w : World) : (sizeOf 3).run Try.prog w = .ok 1 w := by kernel_rfl
theorem elem_int : Try.prog.elem 22 = 3 := by kernel_rfl

set_option maxRecDepth 100000 in
set_option maxHeartbeats 2000000 in
theorem walk (x0 : Sl Int) (x1 : Sl Int) (x2 : Int) (x3 : Int) (w : World) (t0 : Tab w x0.a x0.len x0.cap 1 (x0.l.map iC)) (b0 : x0.len * 8 ≤ 140737488351232) (o0 : ∀ z ∈ x0.l, wfI z) (t1 : Tab w x1.a x1.len x1.cap 1 (x1.l.map iC)) (b1 : x1.len * 8 ≤ 140737488351232) (o1 : ∀ z ∈ x1.l, wfI z) (w2 : (Lit.int .i64 x2).wf = true) (w3 : (Lit.int .i64 x3).wf = true) :
    Calls Try.prog 14 #[.slice x0.a x0.len x0.cap, .slice x1.a x1.len x1.cap, .int .i64 x2, .int .i64 x3] w fun e w' => e = .returned (.bool true) ∧ Below w.heap.size w w' := by
  obtain ⟨a, len, cap, L⟩ := x0
  obtain ⟨a', len', cap', DS⟩ := x1
  have d2 := wf_i64 w2
  have d3 := wf_i64 w3
  have hm := t0.hmax
  have hle := t0.hle
  have hm' := t1.hmax
  have hle' := t1.hle
  unfold maxLen at hm hm'
  have HT := Lib.hid t0
  have HT' := Lib.hid t1
  have HO' := Lib.hid o1
  clear t0 o0 b0 t1 o1 b1
  have C0 := deal_ok (some ⟨w.heap.size, 0, none⟩) (some ⟨w.heap.size + 1, 0, none⟩) 3 3 3 3 [7, 8, 9] [0, 1, 0] ((w.alloc (.cells #[.int .i64 7, .int .i64 8, .int .i64 9] 3)).alloc (.cells #[.int .i64 0, .int .i64 1, .int .i64 0] 3))
    ((tab_lit w 3 1 3 ([(7 : Int), 8, 9].map iC) #[.int .i64 7, .int .i64 8, .int .i64 9] rfl rfl (rows_of iC_len _) (by decide) _ rfl).below ((Below.refl _ _).alloc (Nat.le_refl _) _)) (tab_lit _ 3 1 3 ([(0 : Int), 1, 0].map iC) #[.int .i64 0, .int .i64 1, .int .i64 0] rfl rfl (rows_of iC_len _) (by decide) _ (by simp)) (by decide) rfl two_draws
  rw [show ([7, 8, 9] : List Int).length = 3 from rfl, two_start] at C0
  have C0 := Lib.hid C0
  go_enter Try.func14, Try.ntmps14
  go_wp2_with fail
  refine C0.out.mono ?_
  rintro e v1 ⟨s1, rfl, hO1, hb1⟩
  clear C0
  obtain ⟨a1', cap1, rfl, hT1⟩ := hO1.tab
  have E1 := Lib.hid (equal_ints a1' (some ⟨v1.heap.size, 0, none⟩) 3 cap1 3 3 [9, 8, 7] [9, 8, 7] (v1.alloc (.cells #[.int .i64 9, .int .i64 8, .int .i64 7] 3))
    (hT1.below ((Below.refl _ _).alloc (Nat.le_refl _) _)) (tab_lit _ _ 1 3 ([(9 : Int), 8, 7].map iC) #[.int .i64 9, .int .i64 8, .int .i64 7] rfl rfl (rows_of iC_len _) (by decide) _ rfl) true (by simp))
  have hb0 : Below w.heap.size w ((w.alloc (.cells #[.int .i64 7, .int .i64 8, .int .i64 9] 3)).alloc (.cells #[.int .i64 0, .int .i64 1, .int .i64 0] 3)) := ((Below.refl _ _).alloc (Nat.le_refl _) _).alloc (by simp) _
  have HB1 := Lib.hid (below_on (below_on hb0 hb1) ((Below.refl v1.heap.size v1).alloc (Nat.le_refl _) (.cells #[.int .i64 9, .int .i64 8, .int .i64 7] 3)))
  clear hO1 hT1 hb1 hb0
  go_wp2_with fail
  refine E1.out.mono ?_
  rintro e v2 ⟨rfl, hb2⟩
  have HB2 := Lib.hid (below_on HB1.out hb2)
  clear E1 HB1 hb2
  obtain ⟨n, hn⟩ : ∃ n, min len 12 = n := ⟨_, rfl⟩
  have hn1 : n ≤ len := by omega
  have hn2 : n ≤ 12 := by omega
  go_upto_region 4 with fail
  go_cut [0] (fun s wx => s = .slice a n cap ∧ wx = v2)
  case first =>
    have rU := run_upto 22 3 1 Try.underlying22 elem_int size_int a len cap n (by omega)
    by_cases h12 : len ≤ 12
    · obtain rfl : n = len := by omega
      clear hn
      go_wp2_with fail
      go_meet
      case rel => exact ⟨rfl, rfl⟩
    · obtain rfl : n = 12 := by omega
      have h12' : 12 < len := by omega
      clear hn h12
      go_wp2_with fail
      go_meet
      case rel => exact ⟨rfl, rfl⟩
  case rest =>
  obtain ⟨rfl, rfl⟩ := hcut
  clear hn
  obtain ⟨W0, hW0⟩ : ∃ W0, W0 = wc := ⟨_, rfl⟩
  subst hW0
  have HTn : Hid (Tab W0 a n cap 1 ((L.take n).map iC)) := by
    have := HT.out.upto_ n hn1
    rw [← List.map_take] at this
    exact Lib.hid (this.below HB2.out)
  have HTd := Lib.hid (HT'.out.below HB2.out)
  have HLn : Hid ((L.take n).length = n) := by have := HTn.out.hlen; rwa [List.length_map] at this
  have HLd : Hid (DS.length = len') := by have := HTd.out.hlen; rwa [List.length_map] at this
  clear HT HT' hn1 hm hle
  generalize L.take n = LL at *
  by_cases hn0 : n = 0
  · subst hn0
    have t1 : (((0 : Nat) : Int) == 0) = true := by simp
    go_wp2
    go_ret
    exact ⟨rfl, HB2.out⟩
  have hnp : 0 < n := by omega
  have t1 : ((n : Int) == 0) = false := by rw [beq_eq_false_iff_ne]; omega
  clear hn0
  go_wp2
  go_loopg [11, 12, 45] n (fun g v u i wr => ∃ k : Nat, k + g = n ∧ i = .int .i64 k ∧ Hid (Own wr W0.heap.size 3 1 v ((drawList DS k).map iC) ∧ Own wr W0.heap.size 3 1 u ((drawList DS k).map iC) ∧ Apart v u) ∧ Below W0.heap.size W0 wr)
  case atStart => exact ⟨0, by omega, rfl, Lib.hid ⟨Own.nil _ _ _ _, Own.nil _ _ _ _, apart_nil _⟩, Below.refl _ _⟩
  case round =>
    obtain ⟨k, hk0, rfl, HO, hb⟩ := hrel
    have HJ := Lib.hid hk0
    have hk : k ≤ n := by omega
    clear hk0
    have hsz := hb.size
    by_cases hlt : k < n
    · have hbd := drawAt_bd DS k
      obtain ⟨dk, hdk⟩ : ∃ dk, drawAt DS k = dk := ⟨_, rfl⟩
      rw [hdk] at hbd
      obtain ⟨wo, hwo⟩ : ∃ wo, wo = wr := ⟨_, rfl⟩
      subst hwo
      go_upto_if 51 with fail
      go_cut [14] (fun s wx => s = .int .i64 dk ∧ wx = wo)
      case first =>
        by_cases hdr : k < len'
        · obtain ⟨z, hz⟩ : ∃ z, DS[k]? = some z := ⟨_, List.getElem?_eq_getElem (by rw [HLd.out]; exact hdr)⟩
          obtain ⟨b1, o1, ha, hbs, c0⟩ := HTd.out.one hb (map_get hz)
          have hwz := wf_i64 (HO'.out z (List.mem_of_getElem? hz))
          have HZ : Hid (dk = withI z ((k : Int) + 1)) := by rw [← hdk, drawAt_some hz]; exact Lib.hid rfl
          subst ha
          clear hz hdk
          go_wp2_with fail
          refine (within_int _ _ _ hwz (by omega) (by omega)).mono ?_
          rintro e v4 ⟨rfl, rfl⟩
          rw [← HZ.out]
          go_wp2_with fail
          go_meet
          case rel => exact ⟨rfl, rfl⟩
        · have hdr' : len' ≤ k := by omega
          obtain rfl : dk = 0 := by rw [← hdk, drawAt_none (by rw [HLd.out]; exact hdr')]
          clear hdk hdr
          go_wp2_with fail
          go_meet
          case rel => exact ⟨rfl, rfl⟩
      case rest =>
      obtain ⟨rfl, rfl⟩ := hcut
      obtain ⟨hOv, hOu, hap⟩ := HO.out
      have HNo : Hid ((drawList DS (k + 1)).map iC = (drawList DS k).map iC ++ [[.int .i64 dk]]) := by
        rw [drawList_succ, hdk, List.map_append]; exact Lib.hid rfl
      have hlen2 : ((drawList DS k).map iC).length ≤ 12 := by rw [List.length_map, drawList_len]; omega
      clear HO hdk
      generalize (drawList DS k).map iC = R at *
      go_wp2_with (first | (at_builtin; refine wpList_append_rows_at _ rfl _ _ 22 rfl W0.heap.size 3 _ 1 8 Try.underlying22 info_int rfl (by decide) _ R rfl (hOv.alloc _) ⟨wc.heap.size, 0, none⟩ 1 1 [[.int .i64 dk]] rfl rfl (by simp) (one_row _ _ _ _ (by simp)) (by simp [Value.oneCell']) (by omega) (by decide) (by simp; omega) ?_; intro v8 w8 hO8 hg8 hat8) | (at_builtin; refine wpList_append_rows_at _ rfl _ _ 22 rfl W0.heap.size 3 _ 1 8 Try.underlying22 info_int rfl (by decide) _ R rfl (((hOu.alloc (.cells #[.int .i64 dk] 3)).keptBy hg8 hap.symm.or).alloc _) ⟨w8.heap.size, 0, none⟩ 1 1 [[.int .i64 dk]] rfl rfl (by simp) (one_row _ _ _ _ (by simp)) (by simp [Value.oneCell']) (by omega) (by decide) (by have := hg8.size; simp at this ⊢; omega) ?_; intro v9 w9 hO9 hg9 hat9))
      go_roundg (n - (k + 1))
      case measure => have := HJ.out; omega
      case rel =>
        have g8 : (wc.alloc (.cells #[.int .i64 dk] 3)).grownBy w8 u11.ownBlock := hg8
        have g9 : (w8.alloc (.cells #[.int .i64 dk] 3)).grownBy w9 u12.ownBlock := hg9
        have s8 := g8.size
        have a8 : Apart v8 u12 := hap.append (hOu.alloc (.cells #[.int .i64 dk] 3)) (Nat.le_refl _) hat8
        have hOu8 := (hOu.alloc (.cells #[.int .i64 dk] 3)).keptBy g8 hap.symm.or
        have a9 : Apart v9 v8 := a8.symm.append (hO8.alloc (.cells #[.int .i64 dk] 3)) (Nat.le_refl _) hat9
        have hb8 := (hOv.alloc (.cells #[.int .i64 dk] 3)).under (hb.alloc hsz _) (Nat.le_refl _) (by simp; omega) g8
        have hb9 := (hOu8.alloc (.cells #[.int .i64 dk] 3)).under (hb8.alloc (by simp at s8; omega) _) (Nat.le_refl _) (by simp at s8 ⊢; omega) g9
        exact ⟨k + 1, by omega, by go_num, Lib.hid ⟨by rw [HNo.out]; exact (hO8.alloc _).keptBy g9 a8.or, by rw [HNo.out]; exact hO9, a9.symm⟩, hb9⟩
    · obtain rfl : k = n := by omega
      obtain ⟨hOv, hOu, hap⟩ := HO.out
      have hlv : ((drawList DS k).map iC).length = k := by rw [List.length_map, drawList_len]
      obtain ⟨av, cv, ev, _⟩ := hOv.tab
      obtain ⟨au, cu, eu, _⟩ := hOu.tab
      rw [hlv] at ev eu
      obtain ⟨g1, rfl⟩ : ∃ g, av = some ⟨g, 0, none⟩ := by
        rcases hOv.own.2 with ⟨h0, h0'⟩ | ⟨g', cap', cur, h0, _⟩
        · omega
        · rw [ev] at h0
          simp only [Value.slice.injEq] at h0
          exact ⟨g', h0.1⟩
      obtain ⟨g2, rfl⟩ : ∃ g, au = some ⟨g, 0, none⟩ := by
        rcases hOu.own.2 with ⟨h0, h0'⟩ | ⟨g', cap', cur, h0, _⟩
        · omega
        · rw [eu] at h0
          simp only [Value.slice.injEq] at h0
          exact ⟨g', h0.1⟩
      subst ev eu
      obtain ⟨m, hm⟩ : ∃ m, k = m + 1 := ⟨k - 1, by omega⟩
      have e1 : (k : Int) - 1 = (m : Int) := by omega
      have hmk : m < k := by omega
      have q2 := withI_bd x2 (k : Int) (by omega)
      have q3 := withI_bd x3 (k : Int) (by omega)
      have HI2 := Lib.hid (fun w => within_int x2 (k : Int) w d2 (by omega) (by omega))
      have HI3 := Lib.hid (fun w => within_int x3 (k : Int) w d3 (by omega) (by omega))
      generalize withI x2 (k : Int) = A at *
      generalize withI x3 (k : Int) = B at *
      obtain ⟨A, rfl⟩ := Int.eq_ofNat_of_zero_le q2.1
      obtain ⟨B, rfl⟩ := Int.eq_ofNat_of_zero_le q3.1
      have hA : A ≤ m := by omega
      have hB : B ≤ m := by omega
      clear q2 q3
      have hgm : (drawList DS k)[m]? = some (drawAt DS m) := drawList_get hmk
      obtain ⟨c1, f1, p1, p1'⟩ := hOv.at1 (map_get hgm)
      have hOv2 := hOv.set1 (map_get hgm) (.int .i64 (A : Nat))
      have hOu2 := hOu.beside (i := m) hap rfl (.int .i64 (A : Nat))
      obtain ⟨c2, f2, p2, p2'⟩ := hOu2.at1 (map_get hgm)
      have hOu3 := hOu2.set1 (map_get hgm) (.int .i64 (B : Nat))
      have hap' : Apart (.slice (some ⟨g2, 0, none⟩) k cu) (.slice (some ⟨g1, 0, none⟩) k cv) := hap.symm
      have hOv3 := hOv2.beside (i := m) hap' rfl (.int .i64 (B : Nat))
      have hb3 : Below W0.heap.size W0 ((wr.setCell ⟨g1, m, none⟩ (.int .i64 (A : Nat))).setCell ⟨g2, m, none⟩ (.int .i64 (B : Nat))) := (hb.setCell p1 _).setCell p2 _
      have es : ∀ C : Nat, ((drawList DS k).map iC).set m [.int .i64 (C : Nat)] = ((drawList DS k).set m (C : Int)).map iC := fun C => by rw [List.map_set]; rfl
      rw [es] at hOv3 hOu3
      have D1 := Lib.hid (fun (W : World) (h : Tab W a k cap 1 (LL.map iC)) (h' : Tab W (some ⟨g1, 0, none⟩) k cv 1 (((drawList DS k).set m (A : Int)).map iC)) => deal_ok a (some ⟨g1, 0, none⟩) k cap k cv LL _ W h h' (by rw [HLn.out]; exact hn2) (by rw [List.length_set, drawList_len, HLn.out]) (by rw [hm]; exact drawSet_ok DS m A (by omega) (by omega)))
      have D2 := Lib.hid (fun (W : World) (h : Tab W a k cap 1 (LL.map iC)) (h' : Tab W (some ⟨g2, 0, none⟩) k cu 1 (((drawList DS k).set m (B : Int)).map iC)) => deal_ok a (some ⟨g2, 0, none⟩) k cap k cu LL _ W h h' (by rw [HLn.out]; exact hn2) (by rw [List.length_set, drawList_len, HLn.out]) (by rw [hm]; exact drawSet_ok DS m B (by omega) (by omega)))
      have HU : Hid (unlike (dealTo LL ((drawList DS k).set m (A : Int)) k) (dealTo LL ((drawList DS k).set m (B : Int)) k) k ≤ 3) := by rw [hm]; exact Lib.hid (deal_two LL DS m A B)
      have HDl : ∀ d, (dealTo LL d k).length = k := fun d => by rw [deal_len, HLn.out]
      have HD1 := Lib.hid (HDl ((drawList DS k).set m (A : Int)))
      have HD2 := Lib.hid (HDl ((drawList DS k).set m (B : Int)))
      rw [HLn.out] at D1 D2
      generalize dealTo LL ((drawList DS k).set m (A : Int)) k = X at *
      generalize dealTo LL ((drawList DS k).set m (B : Int)) k = Y at *
      have HX3 := Lib.hid (And.intro hOv3.tab_of (And.intro hOu3.tab_of (And.intro (HTn.out.below hb3) hb3)))
      clear hgm hOv hOu hOv2 hOu2 hOu3 hOv3 hap hap' HO es HDl hm hb3 hlv
      go_wp2_with fail
      refine (HI2.out _).mono ?_
      rintro e v4 ⟨rfl, rfl⟩
      go_wp2_with fail
      refine (HI3.out _).mono ?_
      rintro e v4 ⟨rfl, rfl⟩
      go_wp2_with fail
      refine (D1.out _ HX3.out.2.2.1 HX3.out.1).mono ?_
      rintro e v4 ⟨s4, rfl, hO4, hb4⟩
      obtain ⟨a4, cap4, rfl, hT4⟩ := hO4.tab
      have l4 : (X.map iC).length = k := by rw [List.length_map]; exact HD1.out
      rw [l4] at hT4 ⊢
      have HT4 := Lib.hid hT4
      have D2' := Lib.hid (D2.out v4 (HX3.out.2.2.1.below hb4) (HX3.out.2.1.below hb4))
      have HB4 := Lib.hid (below_on HX3.out.2.2.2 hb4)
      clear hO4 hT4 l4 HX3 D1 D2 c1 f1 c2 f2 hb4
      go_wp2_with fail
      refine D2'.out.mono ?_
      rintro e v5 ⟨s5, rfl, hO5, hb5⟩
      obtain ⟨a5, cap5, rfl, hT5⟩ := hO5.tab
      have l5 : (Y.map iC).length = k := by rw [List.length_map]; exact HD2.out
      rw [l5] at hT5 ⊢
      have HT5 := Lib.hid hT5
      have HT45 := Lib.hid (HT4.out.below hb5)
      have HB5 := Lib.hid (below_on HB2.out (below_on HB4.out hb5))
      clear hO5 hT5 l5 D2' hb5 HT4 HB4 hb HB2
      have t2 : ((k : Int) != (k : Int)) = false := by simp
      go_wp2
      go_loopg [19, 120] k (fun g z i wr => ∃ j : Nat, j + g = k ∧ i = .int .i64 j ∧ z = .int .i64 (unlike X Y j : Nat) ∧ unlike X Y j ≤ j ∧ Below v5.heap.size v5 wr)
      case atStart => exact ⟨0, by omega, rfl, rfl, Nat.le_refl _, Below.refl _ _⟩
      case round =>
        obtain ⟨j, hj0, rfl, rfl, hub, hb⟩ := hrel
        have HJ := Lib.hid hj0
        have hj : j ≤ k := by omega
        clear hj0
        by_cases hlt : j < k
        · obtain ⟨p, hp⟩ : ∃ p, X[j]? = some p := ⟨_, List.getElem?_eq_getElem (by rw [HD1.out]; exact hlt)⟩
          obtain ⟨q, hq⟩ : ∃ q, Y[j]? = some q := ⟨_, List.getElem?_eq_getElem (by rw [HD2.out]; exact hlt)⟩
          obtain ⟨bb1, oo1, ha1, hbs1, cc1⟩ := HT45.out.one hb (map_get hp)
          obtain ⟨bb2, oo2, ha2, hbs2, cc2⟩ := HT5.out.one hb (map_get hq)
          subst ha1 ha2
          have HS0 : unlike X Y (j + 1) = unlike X Y j + if p = q then 0 else 1 := by
            rw [unlike, hp, hq]
            simp only [Option.some.injEq]
          have HS := Lib.hid HS0
          clear hp hq HS0
          generalize unlike X Y j = s at *
          by_cases hpq : p = q
          · rw [if_pos hpq] at HS
            have t3 : ((p : Int) != q) = false := by rw [hpq]; simp
            clear hpq
            go_wp2
            go_quiet (fail)
            go_wp2
            go_roundg (k - (j + 1))
            case measure => have := HJ.out; omega
            case rel => exact ⟨j + 1, by omega, by go_num, by rw [HS.out]; go_num, by rw [HS.out]; omega, below_drewN hb _⟩
          · rw [if_neg hpq] at HS
            have t3 : ((p : Int) != q) = true := by rw [bne_iff_ne]; exact hpq
            clear hpq
            go_wp2
            go_quiet (fail)
            go_wp2
            go_roundg (k - (j + 1))
            case measure => have := HJ.out; omega
            case rel => exact ⟨j + 1, by omega, by go_num, by rw [HS.out]; go_num, by rw [HS.out]; omega, below_drewN hb _⟩
        · obtain rfl : j = k := by omega
          have hs3 := HU.out
          generalize unlike X Y j = s at *
          go_wp2
          go_ret
          exact ⟨ret_bool (decide_eq_true (by omega)), below_on HB5.out hb⟩

set_option maxRecDepth 100000 in
theorem lifted (os : Os) (started : os.Started) (H : Type) (enc : TypeId × Value → H) :
    ReturnsInHanded {} Try.checked os 14 .any (Rows.dealTwoSpec.pre6 enc Try.prog Try.f14 Rows.dealTwoRow.domain false) (Rows.dealTwoSpec.post enc Try.prog Try.f14 false true false false) := by
  refine returnsInHanded_of_change_sized (C := Try.checked) own started (by kernel_rfl) Try.func14
    (ChangeSpec.witness6 (enc := enc) (C := Try.checked) false ⟨#[], #[.slice none 0 0, .slice none 0 0, .int .i64 0, .int .i64 0], []⟩ 8 (by kernel_rfl) (by kernel_rfl) (by kernel_rfl) (by kernel_rfl)) ?_
  intro W base args ds gs before hval0 hW hcnd hsz0 _
  have hval : ∀ (j : Nat) t v, Try.f14.params[j]? = some t → args[j]? = some v → Value.okWide Try.prog W .any base t v := hval0
  have hW' := hW
  obtain ⟨p, q, hA0, hV, rfl, hfz, hnd⟩ := hW
  have hA : DataW.TrodAll enc Try.prog W 0 (fun _ => true) true Try.f14.params.toList args.toList ds p := hA0
  have hsz : (DataW.weightsEach Try.prog (Try.f14.params.toList ++ Rows.dealTwoSpec.plain.varTypes Try.prog) (ds ++ gs)).all (· ≤ reachBytes) = true := hsz0
  rw [Try.params14] at hA hval hsz
  obtain ⟨v0, vs0, d0, ds0, p0, q0, hargs, rfl, rfl, h0, r0⟩ := trodAll_cons hA
  obtain ⟨v1, vs1, d1, ds1, p1, q1, rfl, rfl, rfl, h1, r1⟩ := trodAll_cons r0
  obtain ⟨v2, vs2, d2, ds2, p2, q2, rfl, rfl, rfl, h2, r2⟩ := trodAll_cons r1
  obtain ⟨v3, vs3, d3, ds3, p3, q3, rfl, rfl, rfl, h3, r3⟩ := trodAll_cons r2
  obtain ⟨rfl, rfl, rfl⟩ := trodAll_nil r3
  obtain rfl : args = #[v0, v1, v2, v3] := by cases args; simp_all
  obtain ⟨rfl, rfl⟩ := trodVars_none hV
  have k0 := h0
  have L0 := light_of hsz (j := 0) (t := 22) (d := d0) rfl rfl
  have lt0 : ∀ x ∈ p0, x.block < W.heap.size := by obtain ⟨m, hm⟩ := k0; exact DataW.trod_lt m _ _ _ hm
  obtain ⟨a0, len0, cap0, rfl⟩ := okWide_slice Try.underlying22 (hval 0 22 v0 rfl rfl)
  obtain ⟨n0, f0⟩ := trod_slice_of Try.underlying22 h0
  have F0 := And.intro f0 L0
  obtain ⟨x0, e0, t0, b0, o0⟩ := el_slice (w := W) (k := 1) iC wfI (by decide) Try.underlying22 (by kernel_rfl) (el_int Try.underlying3) (B := 8) (by kernel_rfl) _ _ _ F0.1 F0.2
  simp only [slC, List.cons.injEq, Value.slice.injEq, and_true] at e0
  obtain ⟨rfl, rfl, rfl⟩ := e0
  have k1 := h1
  have L1 := light_of hsz (j := 1) (t := 22) (d := d1) rfl rfl
  have lt1 : ∀ x ∈ p1, x.block < W.heap.size := by obtain ⟨m, hm⟩ := k1; exact DataW.trod_lt m _ _ _ hm
  obtain ⟨a1, len1, cap1, rfl⟩ := okWide_slice Try.underlying22 (hval 1 22 v1 rfl rfl)
  obtain ⟨n1, f1⟩ := trod_slice_of Try.underlying22 h1
  have F1 := And.intro f1 L1
  obtain ⟨x1, e1, t1, b1, o1⟩ := el_slice (w := W) (k := 1) iC wfI (by decide) Try.underlying22 (by kernel_rfl) (el_int Try.underlying3) (B := 8) (by kernel_rfl) _ _ _ F1.1 F1.2
  simp only [slC, List.cons.injEq, Value.slice.injEq, and_true] at e1
  obtain ⟨rfl, rfl, rfl⟩ := e1
  have k2 := h2
  have L2 := light_of hsz (j := 2) (t := 3) (d := d2) rfl rfl
  have lt2 : ∀ x ∈ p2, x.block < W.heap.size := by obtain ⟨m, hm⟩ := k2; exact DataW.trod_lt m _ _ _ hm
  obtain ⟨x2, rfl, rfl, rfl, w2⟩ := open_int Try.underlying3 (hval 2 3 v2 rfl rfl) h2
  have k3 := h3
  have L3 := light_of hsz (j := 3) (t := 3) (d := d3) rfl rfl
  have lt3 : ∀ x ∈ p3, x.block < W.heap.size := by obtain ⟨m, hm⟩ := k3; exact DataW.trod_lt m _ _ _ hm
  obtain ⟨x3, rfl, rfl, rfl, w3⟩ := open_int Try.underlying3 (hval 3 3 v3 rfl rfl) h3
  clear hA0 hval0
  refine (walk x0 x1 x2 x3 W t0 b0 o0 t1 b1 o1 w2 w3).mono fun e W' ⟨he, hg⟩ => ?_
  subst he
  exact ⟨_, rfl, _, _, _, [], _, [], hW', trodAll_mk1 (shut_bool Try.underlying4 _), (trodAll_cons_mk (Below.trod laidOut (by kernel_rfl) (of_decide_eq_true (by kernel_rfl)) k0 hg lt0) (trodAll_cons_mk (Below.trod laidOut (by kernel_rfl) (of_decide_eq_true (by kernel_rfl)) k1 hg lt1) (trodAll_cons_mk (Below.trod laidOut (by kernel_rfl) (of_decide_eq_true (by kernel_rfl)) k2 hg lt2) (trodAll_cons_mk (Below.trod laidOut (by kernel_rfl) (of_decide_eq_true (by kernel_rfl)) k3 hg lt3) trodAll_mk0)))), rfl, hg.frame _, fun h => by cases h⟩

theorem over : Rows.dealTwoRow.holds Try.pinned (OpenSpec.ofChange Rows.dealTwoSpec) :=
  OpenClaim.holds_of_wide 14 Try.f14 rfl rfl rfl rfl rfl rfl rfl ⟨rfl, rfl, rfl, rfl, rfl⟩ rfl rfl rfl rfl rfl (by kernel_rfl) Try.func14 (by kernel_rfl)
    (of_decide_eq_true (by kernel_rfl)) (by unfold Func.isWrapper; first | (rw [if_pos (by decide +kernel)]; kernel_rfl) | (rw [if_neg (by decide +kernel)]; exact ⟨rfl, rfl⟩))
    (fun os started H enc _ => lifted os started H enc)

/-- ████ THE STATEMENT ████ -/
theorem proved : Rows.DealTwoSaid :=
  over
#print axioms proved
end Go.Proofs.Ytanfkolcoaofdaa.dealTwo
