/-
  'Rows.FewExactSaid' is proved: as long as there is room for all keys nothing is lost, and every count is exact. No condition.
-/
import Derived.Test.YtffgoekdjcempaaRows
import Derived.Test.YtffgoekdjcempaaShapes
import Derived.Test.YtffgoekdjcempaaFewHeard
import Derived.Test.YtffgoekdjcempaaFewAsk
import Derived.Test.YtffgoekdjcempaaEqualCounters
import Derived.Test.YtffgoekdjcempaaRefCounts
import Derived.Test.YtffgoekdjcempaaTabCame
import Derived.Test.YtffgoekdjcempaaWithin
import Derived.Test.YtffgoekdjcempaaLit
import Derived.Deep.DeepCutAuto
import Derived.Deep.LoopGhost
import Derived.BigQuiet
import Derived.Deep.QuietTactic
import Derived.Maps.RangeWalk
import Derived.WalkKit
import Derived.ProofKit
import Derived.OpenShut
import Derived.ShutString
import Derived.ChangeOld
import Derived.Below
namespace Go.Proofs.Ytffgoekdjcempaa.fewExact
open Go.ChangeShapes Go.WideShapes Go.ChangeAt Go.RowKit
open Go.ChangeMaps (open_string shut_string)
set_option linter.unusedVariables false

theorem own : ownKnob Try.prog.godebug = none := by kernel_rfl
theorem laidOut : laidOutB Try.prog = true := by kernel_rfl

--BEATS
open Few Came
theorem sumN_tot (C : List (Int × Int)) : sumN C = tot C := rfl
theorem came_wf {L : List (Sl Int)} (ho : ∀ z ∈ L, ∀ y ∈ z.l, wfI y) {most : Int} : ∀ p ∈ Came.of most ((L.take 60).map (fun s => s.l)), wfI p.1 := by
  intro p hp
  obtain ⟨c, hc, h1⟩ := List.mem_filterMap.1 hp
  obtain ⟨s, hs, rfl⟩ := List.mem_map.1 hc
  unfold Came.one at h1
  split at h1
  · rename_i k n hk hn
    simp only [Option.some.injEq] at h1
    subst h1
    exact ho s (List.mem_of_mem_take hs) k (List.mem_of_getElem? hk)
  · cases h1
/-- counters whose keys are made small -/
def small (M : Int) (p : Int × Int) : Int × Int := (withI p.1 M, p.2)
def rekey (M : Int) (A : List (Int × Int)) (j : Nat) : List (Int × Int) := (A.take j).map (small M) ++ A.drop j
theorem rekey_zero (M : Int) (A : List (Int × Int)) : rekey M A 0 = A := by simp [rekey]
theorem rekey_all {M : Int} {A : List (Int × Int)} {n : Nat} (h : A.length = n) : rekey M A n = A.map (small M) := by
  unfold rekey
  rw [List.take_of_length_le (by omega), List.drop_of_length_le (by omega), List.append_nil]
theorem rekey_len (M : Int) (A : List (Int × Int)) (j : Nat) : (rekey M A j).length = A.length := by
  unfold rekey
  rw [List.length_append, List.length_map, List.length_take, List.length_drop]; omega
theorem rekey_get {M : Int} {A : List (Int × Int)} {j : Nat} {p : Int × Int} (h : A[j]? = some p) : (rekey M A j)[j]? = some p := by
  have hj := (List.getElem?_eq_some_iff.1 h).1
  unfold rekey
  rw [List.getElem?_append_right (by rw [List.length_map, List.length_take]; omega), List.length_map, List.length_take, List.getElem?_drop, show j + (j - min j A.length) = j from by omega, h]
theorem rekey_set {M : Int} {A : List (Int × Int)} {j : Nat} {x m : Int} (h : A[j]? = some (x, m)) : (rekey M A j).set j (withI x M, m) = rekey M A (j + 1) := by
  have hj := (List.getElem?_eq_some_iff.1 h).1
  unfold rekey
  have hl : ((A.take j).map (small M)).length = j := by rw [List.length_map, List.length_take]; omega
  rw [List.set_append_right _ _ (by omega), hl, Nat.sub_self, List.take_add_one, h, Option.toList_some, List.map_append, List.append_assoc]
  congr 1
  rw [List.drop_eq_getElem_cons hj, List.set_cons_zero]
  rfl
theorem small_sum (M : Int) : ∀ A : List (Int × Int), sumN (A.map (small M)) = sumN A
  | [] => rfl
  | p :: A => by
    have := small_sum M A
    unfold sumN at this ⊢
    rw [List.map_cons, List.map_cons, List.map_cons, List.sum_cons, List.sum_cons, this]; rfl
theorem small_key {M : Int} (hM : 1 ≤ M) {A : List (Int × Int)} : ∀ p ∈ A.map (small M), 0 ≤ p.1 ∧ p.1 < M := by
  intro p hp
  obtain ⟨q, _, rfl⟩ := List.mem_map.1 hp
  exact withI_bd q.1 M hM
theorem small_num {M a b : Int} {A : List (Int × Int)} (h : ∀ p ∈ A, a ≤ p.2 ∧ p.2 ≤ b) : ∀ p ∈ A.map (small M), a ≤ p.2 ∧ p.2 ≤ b := by
  intro p hp
  obtain ⟨q, hq, rfl⟩ := List.mem_map.1 hp
  exact h q hq
theorem wf_small {x : Int} (h0 : 0 ≤ x) (h1 : x < 1000) : wfI x := by
  simp [wfI, Lit.wf, IntKind.min, IntKind.max, IntKind.bits, IntKind.signed]; omega
theorem set_first {C : List (Int × Int)} {i : Nat} {key m s : Int} : (C.map iiC).set i ((iiC (key, m)).set 0 (.int .i64 s)) = (C.set i (s, m)).map iiC := by
  rw [List.map_set]; rfl
theorem lawMM : Maps.Keyed Try.prog 3 := Maps.int_keyed Try.underlying3
theorem put_some {K L : Int} {a : Option Addr} {len cap : Nat} {C : List (Int × Int)} {i : Nat} {key m n : Int} {w : World} (h : Tab w a len cap 2 (C.map iiC)) (hG : Few.Good K L C) (hi : C[i]? = some (key, m)) (h1 : 1 ≤ n) (h2 : n ≤ 1000000000000) (h3 : m + n ≤ 1000000000000) :
    Calls Try.prog 22 #[.agg #[.int .i64 K, .int .i64 L, .slice a len cap], .int .i64 key, .int .i64 n] w fun e w' => ∃ v, e = .returned (.tuple #[.agg #[.int .i64 K, .int .i64 L, v], .int .i64 0]) ∧ Own w' w.heap.size 43 2 v ((C.set i (key, m + n)).map iiC) ∧ Below w.heap.size w w' := by
  obtain ⟨z0, z1, z2, _⟩ := put_at hG hi h1 h2
  refine (fewPut_any K L a len cap C key n w h).mono ?_
  rintro e w' ⟨Kr, Lr, Cr, v, rfl, hO, hw, hb⟩
  rw [(z2 h3).1] at hO ⊢
  rcases hO with ⟨_, h4, h5, h6⟩ | ⟨h4, _⟩
  · rw [z0, Int.add_zero] at h5
    rw [z1] at h6
    subst h4 h5 h6
    exact ⟨v, rfl, hw, hb⟩
  · exact absurd rfl h4
theorem good_251 : Few.Good 2 0 [(5, 1)] := ⟨by decide, by decide, by decide, by decide, by decide, by simp, List.pairwise_singleton _ _⟩

set_option maxRecDepth 100000 in
set_option maxHeartbeats 12000000 in
theorem walk (x0 : Int) (x1 : Sl (Sl Int)) (w : World) (w0 : (Lit.int .i64 x0).wf = true) (t1 : Tab w x1.a x1.len x1.cap 1 (x1.l.map slC)) (b1 : x1.len * 24 ≤ 140737488351232) (o1 : ∀ z ∈ x1.l, (fun y : Sl Int => Tab w y.a y.len y.cap 1 (y.l.map iC) ∧ y.len * 8 ≤ 140737488351232 ∧ ∀ z ∈ y.l, wfI z) z) :
    Calls Try.prog 10 #[.int .i64 x0, .slice x1.a x1.len x1.cap] w fun e w' => e = .returned (.bool true) ∧ Below w.heap.size w w' := by
  obtain ⟨a, len, cap, S⟩ := x1
  simp only at t1 o1 b1
  have hb0 : Below w.heap.size w (w.alloc (.cells #[.int .i64 5, .int .i64 1] 43)) := (Below.refl _ _).alloc (Nat.le_refl _) _
  have C0 := Lib.hid (put_some (n := 2) (i := 0) (key := 5) (m := 1) (tab_lit w 43 2 1 ([((5 : Int), (1 : Int))].map iiC) #[.int .i64 5, .int .i64 1] rfl rfl (rows_of iiC_len _) (by decide) _ rfl) good_251 rfl (by decide) (by decide) (by decide))
  have HB0 := Lib.hid hb0
  have hd := withI_bd x0 16 (by decide)
  have HWN := Lib.hid (fun W => within_int x0 16 W (wf_i64 w0) (by omega) (by omega))
  generalize withI x0 16 = u at *
  obtain ⟨K, hK⟩ : ∃ K, 1 + u = K := ⟨_, rfl⟩
  have hK1 : 1 ≤ K := by omega
  have hK2 : K ≤ 16 := by omega
  have HK := Lib.hid hK
  have hu0 := hd.1
  have hu1 := hd.2
  clear hb0 hd hK
  have HCM := Lib.hid (fun (W : World) (hb : Below w.heap.size w W) => came_any a len cap S 100 W (t1.below hb) (fun z hz => ⟨((o1 z hz).1).below hb, (o1 z hz).2.2⟩) (by decide) (by decide))
  have hwf := came_wf (L := S) (fun z hz => (o1 z hz).2.2) (most := 100)
  have hAb := of_bd (most := 100) (by decide) (L := (S.take 60).map (fun s => s.l))
  have hAl : (Came.of 100 ((S.take 60).map (fun s => s.l))).length ≤ 60 := Nat.le_trans (of_len _ _) (by rw [List.length_map, List.length_take]; omega)
  have hAs := sumN_bd (most := 100) (by decide) hAb
  obtain ⟨A, hA⟩ : ∃ A, Came.of 100 ((S.take 60).map (fun s => s.l)) = A := ⟨_, rfl⟩
  rw [hA] at HCM hAb hAl hAs hwf
  have HAb := Lib.hid hAb
  have HAl := Lib.hid hAl
  have HWF := Lib.hid hwf
  obtain ⟨T, hT⟩ : ∃ T, sumN A = T := ⟨_, rfl⟩
  rw [hT] at hAs HCM
  have HT := Lib.hid hT
  have hT0 : 0 ≤ T := hAs.1
  have hT1 : T ≤ 6000 := by have := hAs.2; omega
  clear t1 o1 b1 hA hAb hAl hAs hT hwf w0
  go_enter Try.func10, Try.ntmps10
  go_wp2_with fail
  refine C0.out.mono ?_
  rintro e v1 ⟨q1, rfl, hO, hb⟩
  obtain ⟨a1, c1, rfl, hTq⟩ := own_ctrs (n := 1) hO rfl
  have hz := FV.new (K := 2) (L := 0) hTq
  have HB1 := Lib.hid (below_on (below_on HB0.out hb) hz.2)
  obtain ⟨v2, hv2⟩ : ∃ v, v1.alloc (.cells #[.int .i64 2, .int .i64 0, .slice a1 1 c1] 39) = v := ⟨_, rfl⟩
  rw [hv2] at HB1 hz
  obtain ⟨Y, hY⟩ : ∃ Y, v1.heap.size = Y := ⟨_, rfl⟩
  rw [hY] at hz
  have SY := Lib.hid hz.1
  have HVX := Lib.hid (And.intro hv2 hY)
  clear hz hb hO hTq hv2 hY HB0 C0
  go_upto_region 2 with fail
  rw [HVX.out.1, HVX.out.2]
  clear HVX
  have hal : Below v2.heap.size v2 (v2.alloc (.cells #[.int .i64 5, .int .i64 3] 43)) := (Below.refl _ _).alloc (Nat.le_refl _) _
  have CE := Lib.hid (equal_counters a1 (some ⟨v2.heap.size, 0, none⟩) 1 c1 1 1 [(5, 3)] [(5, 3)] _ (SY.out.2.below hal) (tab_lit v2 43 2 1 ([((5 : Int), (3 : Int))].map iiC) #[.int .i64 5, .int .i64 3] rfl rfl (rows_of iiC_len _) (by decide) _ rfl) true (by simp))
  obtain ⟨c0, d0, e0⟩ := SY.out.cells
  have HAL := Lib.hid hal
  clear hal
  go_wp2_with fail
  clear c0 d0 e0
  refine CE.out.mono ?_
  rintro e v3 ⟨rfl, hb⟩
  have HB3 := Lib.hid (below_on (below_on HB1.out HAL.out) hb)
  clear hb CE HAL HB1 SY
  go_wp2_with fail
  refine (HWN.out _).mono ?_
  rintro e v4 ⟨rfl, hv4⟩
  rw [← hv4]
  clear hv4 HWN
  go_upto_region 5 with fail
  rw [HK.out]
  go_wp2_with fail
  refine (HCM.out _ HB3.out).mono ?_
  rintro e v5 ⟨qA, rfl, hO, hb⟩
  obtain ⟨nA, hnA⟩ : ∃ n, A.length = n := ⟨_, rfl⟩
  obtain ⟨aA, cA, rfl, hTA⟩ := own_ctrs hO hnA
  have HNA := Lib.hid hnA
  have hn60 : nA ≤ 60 := by rw [← hnA]; exact HAl.out
  have HB5 := Lib.hid (below_on HB3.out hb)
  have hOw := hO.base_le (B := w.heap.size) HB3.out.size
  rw [← rekey_zero K A] at hOw
  have HO5 := Lib.hid hOw
  clear hO hb hTA hnA HCM HB3 hOw
  go_wp2_with fail
  go_loopg [44] nA (fun g i wr => ∃ j : Nat, j + g = nA ∧ i = .int .i64 j ∧ Hid (Own wr w.heap.size 43 2 (.slice aA nA cA) ((rekey K A j).map iiC)) ∧ Hid (Below w.heap.size w wr))
  case atStart => exact ⟨0, by omega, rfl, HO5, HB5⟩
  case round =>
    clear HO5 HB5
    obtain ⟨j, hj0, rfl, HO, HB⟩ := hrel
    have HJ := Lib.hid hj0
    have hj : j ≤ nA := by omega
    clear hj0
    by_cases hlt : j < nA
    · obtain ⟨⟨x, m⟩, hx⟩ : ∃ x, A[j]? = some x := ⟨_, List.getElem?_eq_getElem (by rw [HNA.out]; exact hlt)⟩
      have hg := rekey_get (M := K) hx
      obtain ⟨g, cap', hv⟩ := own_slice HO.out (i := j) (by rw [rekey_len, HNA.out]; exact hlt)
      rw [rekey_len, HNA.out] at hv
      simp only [Value.slice.injEq, true_and] at hv
      obtain ⟨rfl, rfl⟩ := hv
      obtain ⟨q0, q1, q2, q3⟩ := HO.out.at_ (i := j) (j := 0) (map_get hg) rfl
      have hs := HO.out.set_ (i := j) (j := 0) (map_get hg) (by decide) (.int .i64 (withI x K))
      rw [set_first, rekey_set hx] at hs
      rw [Nat.add_zero] at q0 q1 hs
      have HS := Lib.hid hs
      have HBS := Lib.hid (HB.out.setCell (p := ⟨g, j * 2, none⟩) q2 (.int .i64 (withI x K)))
      have hwx := wf_i64 (HWF.out _ (List.mem_of_getElem? hx))
      have HWX := Lib.hid (fun W => within_int x K W hwx (by omega) (by omega))
      generalize withI x K = y at *
      clear hx hg hs hwx
      obtain ⟨wo, hwo⟩ : ∃ wo, wo = wr := ⟨_, rfl⟩
      subst hwo
      go_wp2_with fail
      refine (HWX.out _).mono ?_
      rintro e w6 ⟨rfl, hw6⟩
      rw [← hw6]
      clear hw6 HWX
      go_wp2_with fail
      go_roundg (nA - (j + 1))
      case measure => have := HJ.out; omega
      case rel => exact ⟨j + 1, by omega, by go_num, HS, HBS⟩
    · obtain rfl : j = nA := by omega
      rw [rekey_all HNA.out] at HO
      have HB5 := HB
      have hAb2 := small_num (M := K) HAb.out
      have hky := small_key (M := K) (A := A) (by omega)
      have hS2 := small_sum K A
      rw [HT.out] at hS2
      have hAl2 : (A.map (small K)).length = j := by rw [List.length_map, HNA.out]
      generalize A.map (small K) = R at *
      have HAb2 := Lib.hid hAb2
      have HKY := Lib.hid hky
      have HS2 := Lib.hid hS2
      have HAl2 := Lib.hid hAl2
      have HRW : Hid (∀ p ∈ R, wfI p.1) := Lib.hid (fun p hp => wf_small (HKY.out p hp).1 (by have := (HKY.out p hp).2; omega))
      have TA := Lib.hid HO.out.tab_of
      have HH := Lib.hid (heard_any K aA j cA R wr TA.out (by omega) hK1 hK2 (fun p hp => by have := HAb2.out p hp; omega) (by rw [← sumN_tot, HS2.out]; omega))
      obtain ⟨v5, hv5⟩ : ∃ v5, v5 = wr := ⟨_, rfl⟩
      subst hv5
      clear hAb2 hky hS2 hAl2 HO
      go_wp2_with fail
      refine HH.out.mono ?_
      rintro e v6 ⟨L, C, q, rfl, hN, hO, hb⟩
      obtain ⟨nC, hnC⟩ : ∃ n, C.length = n := ⟨_, rfl⟩
      obtain ⟨aC, cC, rfl, hTC⟩ := own_ctrs hO hnC
      have hz := FV.new (K := K) (L := L) hTC
      have HB7 := Lib.hid (below_on (below_on HB5.out hb) hz.2)
      replace TA := Lib.hid ((TA.out.below hb).below hz.2)
      obtain ⟨v7, hv7⟩ : ∃ v, v6.alloc (.cells #[.int .i64 K, .int .i64 L, .slice aC nC cC] 39) = v := ⟨_, rfl⟩
      rw [hv7] at HB7 hz TA
      obtain ⟨F, hF⟩ : ∃ Y, v6.heap.size = Y := ⟨_, rfl⟩
      rw [hF] at hz
      have SF := Lib.hid hz.1
      have HVX := Lib.hid (And.intro hv7 hF)
      have HN := Lib.hid hN
      clear hz hb hO hTC hv7 hF hN hnC HH
      go_upto_region 12 with fail
      rw [HVX.out.1, HVX.out.2]
      clear HVX
      obtain ⟨c0, d0, e0⟩ := SF.out.cells
      obtain rfl : L = 0 := HN.out.exact_ HKY.out
      go_wp2_with fail
      clear c0 d0 e0
      have HCo := Lib.hid (counts_any aA j cA R v7 TA.out (by omega) (fun p hp => by have := HAb2.out p hp; omega) HRW.out (by rw [HS2.out]; omega))
      refine HCo.out.mono ?_
      rintro e v9 ⟨mb, rfl, hmb, hM, hb⟩
      have HB9 := Lib.hid (below_on HB7.out hb)
      replace SF := Lib.hid (SF.out.below hb)
      obtain ⟨DD, hD1, hD2, hD3, hD4⟩ := hM
      have HD := Lib.hid (And.intro hD3 hD4)
      have HO9 := Lib.hid hD1
      clear hb hmb HCo HB7 TA hD1 hD2 hD3 hD4
      go_wp2_with (at_range; refine wpList_range_own _ rfl _ 50 rfl 3 3 lawMM Try.underlying50 _ mb _ DD rfl HO9.out ?_; intro w7 hrg7 hg7 hs7)
      go_frame
      have HB10 : Hid (Below v9.heap.size v9 w7) := Lib.hid ((Below.refl _ _).grown hg7 (Nat.le_refl _) (fun q hq => by cases hq))
      have HRG := Lib.hid hrg7
      have HZS : Hid (Maps.size DD = Maps.size DD) := Lib.hid rfl
      generalize Maps.size DD = BN at *
      obtain ⟨RS, hRS⟩ : ∃ s, v9.heap.size = s := ⟨_, rfl⟩
      have HRS := Lib.hid hRS
      rw [hRS] at HRG
      try rw [hRS]
      clear hrg7 hg7 hs7 HO9 HZS hRS
      generalize R.reverse.length = RL at *
      go_loopg [12] BN (fun g s wx => ∃ (left : Lit → Bool) (cnt : Nat), Hid (cnt ≤ g) ∧ Hid (wx.ranges Try.prog 3 (plainElem Try.prog 3) mb RS RL DD left cnt) ∧ Hid (∀ kl, left kl = true → Maps.has DD kl = true) ∧ Hid (Below v9.heap.size v9 wx))
      case atStart => exact ⟨_, _, Lib.hid (Nat.le_refl _), HRG, Lib.hid (fun _ h => h), HB10⟩
      case round =>
        clear HRG HB10
        obtain ⟨left, cnt, HG, HR, HLf, HB⟩ := hrel
        go_wp2_with (at_next; refine wpList_next_ranges_ii _ rfl _ rfl 3 3 .i64 .i64 lawMM Try.underlying3 Try.underlying3 mb RS _ DD left cnt rfl HR.out ?_ ?_)
        · intro hc0 hl0
          go_wp2
          go_ret
          exact ⟨rfl, below_on HB9.out HB.out⟩
        · intro x c w1 cnt1 hwx hwc hlx hat hrg1 hlt1 hg1 hs1 hen
          have hc : c = oft x R := by
            have h := hat (.lit (.int .i64 0))
            rw [HD.out.1 x, oft_reverse] at h
            simp only [DataW.lit.injEq, Lit.int.injEq, true_and] at h
            exact h.symm
          have hb1 : Below v9.heap.size v9 w1 := HB.out.grown hg1 HB.out.size (fun q hq => by cases hq; rw [HRS.out]; exact Nat.le_refl _)
          have HR1 := Lib.hid hrg1
          have HB1 := Lib.hid hb1
          have HC1 := Lib.hid hlt1
          have HL1 : Hid (∀ kl, (left kl && !kl.sameKey (.int .i64 x)) = true → Maps.has DD kl = true) := Lib.hid (fun kl h => HLf.out kl (by rw [Bool.and_eq_true] at h; exact h.1))
          have hlow := HN.out.low x
          have hhigh := HN.out.high x
          have SF1 := Lib.hid (SF.out.below hb1)
          have CA := fewAsk_ok K 0 aC nC cC C x w1 SF1.out.2 HN.out.good
          unfold fewV at CA
          obtain ⟨z, hz⟩ : ∃ z, oft x C = z := ⟨_, rfl⟩
          rw [hz] at CA hlow hhigh
          rw [← hc] at hlow hhigh
          obtain rfl : z = c := by omega
          rw [Int.add_zero] at CA
          replace CA := Lib.hid CA
          have tz : (z != z) = false := by simp
          clear hwx hwc hlx hat hrg1 hlt1 hg1 hs1 hb1 hc hlow hhigh hz
          obtain ⟨c0, d0, e0⟩ := SF1.out.cells
          go_wp2_with fail
          clear c0 d0 e0
          refine CA.out.mono ?_
          rintro e w8 ⟨rfl, hb8⟩
          have HB8 := Lib.hid (below_on HB1.out hb8)
          have HR8 := Lib.hid (HR1.out.kept (row := none) ⟨hb8.os, hb8.tape, hb8.output, hb8.size, fun k hk _ => hb8.block k hk⟩ (by simp) (by simp))
          clear hb8 CA HR1 HB1
          go_wp2_with fail
          go_roundg cnt1
          case measure => have h1 := HG.out; have h2 := HC1.out; omega
          case rel => exact ⟨_, cnt1, Lib.hid (Nat.le_refl _), HR8, HL1, HB8⟩

set_option maxRecDepth 100000 in
theorem lifted (os : Os) (started : os.Started) (H : Type) (enc : TypeId × Value → H) :
    ReturnsInHanded {} Try.checked os 10 .any (Rows.fewExactSpec.pre6 enc Try.prog Try.f10 Rows.fewExactRow.domain false) (Rows.fewExactSpec.post enc Try.prog Try.f10 false true false false) := by
  refine returnsInHanded_of_change_sized (C := Try.checked) own started (by kernel_rfl) Try.func10
    (ChangeSpec.witness6 (enc := enc) (C := Try.checked) false ⟨#[], #[.int .i64 0, .slice none 0 0], []⟩ 8 (by kernel_rfl) (by kernel_rfl) (by kernel_rfl) (by kernel_rfl)) ?_
  intro W base args ds gs before hval0 hW hcnd hsz0 _
  have hval : ∀ (j : Nat) t v, Try.f10.params[j]? = some t → args[j]? = some v → Value.okWide Try.prog W .any base t v := hval0
  have hW' := hW
  obtain ⟨p, q, hA0, hV, rfl, hfz, hnd⟩ := hW
  have hA : DataW.TrodAll enc Try.prog W 0 (fun _ => true) true Try.f10.params.toList args.toList ds p := hA0
  have hsz : (DataW.weightsEach Try.prog (Try.f10.params.toList ++ Rows.fewExactSpec.plain.varTypes Try.prog) (ds ++ gs)).all (· ≤ reachBytes) = true := hsz0
  rw [Try.params10] at hA hval hsz
  obtain ⟨v0, vs0, d0, ds0, p0, q0, hargs, rfl, rfl, h0, r0⟩ := trodAll_cons hA
  obtain ⟨v1, vs1, d1, ds1, p1, q1, rfl, rfl, rfl, h1, r1⟩ := trodAll_cons r0
  obtain ⟨rfl, rfl, rfl⟩ := trodAll_nil r1
  obtain rfl : args = #[v0, v1] := by cases args; simp_all
  obtain ⟨rfl, rfl⟩ := trodVars_none hV
  have k0 := h0
  have L0 := light_of hsz (j := 0) (t := 3) (d := d0) rfl rfl
  have lt0 : ∀ x ∈ p0, x.block < W.heap.size := by obtain ⟨m, hm⟩ := k0; exact DataW.trod_lt m _ _ _ hm
  obtain ⟨x0, rfl, rfl, rfl, w0⟩ := open_int Try.underlying3 (hval 0 3 v0 rfl rfl) h0
  have k1 := h1
  have L1 := light_of hsz (j := 1) (t := 36) (d := d1) rfl rfl
  have lt1 : ∀ x ∈ p1, x.block < W.heap.size := by obtain ⟨m, hm⟩ := k1; exact DataW.trod_lt m _ _ _ hm
  obtain ⟨a1, len1, cap1, rfl⟩ := okWide_slice Try.underlying36 (hval 1 36 v1 rfl rfl)
  obtain ⟨n1, f1⟩ := trod_slice_of Try.underlying36 h1
  have F1 := And.intro f1 L1
  obtain ⟨x1, e1, t1, b1, o1⟩ := el_slice (w := W) (k := 1) slC (fun y : Sl Int => Tab W y.a y.len y.cap 1 (y.l.map iC) ∧ y.len * 8 ≤ 140737488351232 ∧ ∀ z ∈ y.l, wfI z) (by decide) Try.underlying36 (by kernel_rfl) (el_slice (k := 1) iC wfI (by decide) Try.underlying22 (by kernel_rfl) (el_int Try.underlying3) (B := 8) (by kernel_rfl)) (B := 24) (by kernel_rfl) _ _ _ F1.1 F1.2
  simp only [slC, List.cons.injEq, Value.slice.injEq, and_true] at e1
  obtain ⟨rfl, rfl, rfl⟩ := e1
  clear hA0 hval0
  refine (walk x0 x1 W w0 t1 b1 o1).mono fun e W' ⟨he, hg⟩ => ?_
  subst he
  exact ⟨_, rfl, _, _, _, [], _, [], hW', trodAll_mk1 (shut_bool Try.underlying4 _), (trodAll_cons_mk (Below.trod laidOut (by kernel_rfl) (of_decide_eq_true (by kernel_rfl)) k0 hg lt0) (trodAll_cons_mk (Below.trod laidOut (by kernel_rfl) (of_decide_eq_true (by kernel_rfl)) k1 hg lt1) trodAll_mk0)), rfl, hg.frame _, fun h => by cases h⟩

theorem over : Rows.fewExactRow.holds Try.pinned (OpenSpec.ofChange Rows.fewExactSpec) :=
  OpenClaim.holds_of_wide 10 Try.f10 rfl rfl rfl rfl rfl rfl rfl ⟨rfl, rfl, rfl, rfl, rfl⟩ rfl rfl rfl rfl rfl (by kernel_rfl) Try.func10 (by kernel_rfl)
    (of_decide_eq_true (by kernel_rfl)) (by unfold Func.isWrapper; first | (rw [if_pos (by decide +kernel)]; kernel_rfl) | (rw [if_neg (by decide +kernel)]; exact ⟨rfl, rfl⟩))
    (fun os started H enc _ => lifted os started H enc)

/-- ████ THE STATEMENT ████ -/
theorem proved : Rows.FewExactSaid :=
  over
#print axioms proved
end Go.Proofs.Ytffgoekdjcempaa.fewExact
