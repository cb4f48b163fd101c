/-
  'Rows.FewOftenSaid' is proved: a key that came more often than all that came over K + 1 has a counter. No condition.
-/
import Derived.Test.YtffgoekdjcempaaRows
import Derived.Test.YtffgoekdjcempaaShapes
import Derived.Test.YtffgoekdjcempaaFewHeard
import Derived.Test.YtffgoekdjcempaaFewVar
import Derived.Test.YtffgoekdjcempaaFindCounters
import Derived.Test.YtffgoekdjcempaaRefCounts
import Derived.Test.YtffgoekdjcempaaTabCame
import Derived.Test.YtffgoekdjcempaaWithin
import Derived.Test.YtffgoekdjcempaaLit
import Derived.Deep.DeepCutAuto
import Derived.Deep.LoopGhost
import Derived.BigQuiet
import Derived.Deep.QuietTactic
import Derived.Maps.RangeWalk
import Derived.WalkKit
import Derived.ProofKit
import Derived.OpenShut
import Derived.ShutString
import Derived.ChangeOld
import Derived.Below
namespace Go.Proofs.Ytffgoekdjcempaa.fewOften
open Go.ChangeShapes Go.WideShapes Go.ChangeAt Go.RowKit
open Go.ChangeMaps (open_string shut_string)
set_option linter.unusedVariables false

theorem own : ownKnob Try.prog.godebug = none := by kernel_rfl
theorem laidOut : laidOutB Try.prog = true := by kernel_rfl

--BEATS
open Few Came
theorem sumN_tot (C : List (Int × Int)) : sumN C = tot C := rfl
theorem came_wf {L : List (Sl Int)} (ho : ∀ z ∈ L, ∀ y ∈ z.l, wfI y) {most : Int} : ∀ p ∈ Came.of most ((L.take 60).map (fun s => s.l)), wfI p.1 := by
  intro p hp
  obtain ⟨c, hc, h1⟩ := List.mem_filterMap.1 hp
  obtain ⟨s, hs, rfl⟩ := List.mem_map.1 hc
  unfold Came.one at h1
  split at h1
  · rename_i k n hk hn
    simp only [Option.some.injEq] at h1
    subst h1
    exact ho s (List.mem_of_mem_take hs) k (List.mem_of_getElem? hk)
  · cases h1
/-- counters whose keys are made small -/
def small (M : Int) (p : Int × Int) : Int × Int := (withI p.1 M, p.2)
def rekey (M : Int) (A : List (Int × Int)) (j : Nat) : List (Int × Int) := (A.take j).map (small M) ++ A.drop j
theorem rekey_zero (M : Int) (A : List (Int × Int)) : rekey M A 0 = A := by simp [rekey]
theorem rekey_all {M : Int} {A : List (Int × Int)} {n : Nat} (h : A.length = n) : rekey M A n = A.map (small M) := by
  unfold rekey
  rw [List.take_of_length_le (by omega), List.drop_of_length_le (by omega), List.append_nil]
theorem rekey_len (M : Int) (A : List (Int × Int)) (j : Nat) : (rekey M A j).length = A.length := by
  unfold rekey
  rw [List.length_append, List.length_map, List.length_take, List.length_drop]; omega
theorem rekey_get {M : Int} {A : List (Int × Int)} {j : Nat} {p : Int × Int} (h : A[j]? = some p) : (rekey M A j)[j]? = some p := by
  have hj := (List.getElem?_eq_some_iff.1 h).1
  unfold rekey
  rw [List.getElem?_append_right (by rw [List.length_map, List.length_take]; omega), List.length_map, List.length_take, List.getElem?_drop, show j + (j - min j A.length) = j from by omega, h]
theorem rekey_set {M : Int} {A : List (Int × Int)} {j : Nat} {x m : Int} (h : A[j]? = some (x, m)) : (rekey M A j).set j (withI x M, m) = rekey M A (j + 1) := by
  have hj := (List.getElem?_eq_some_iff.1 h).1
  unfold rekey
  have hl : ((A.take j).map (small M)).length = j := by rw [List.length_map, List.length_take]; omega
  rw [List.set_append_right _ _ (by omega), hl, Nat.sub_self, List.take_add_one, h, Option.toList_some, List.map_append, List.append_assoc]
  congr 1
  rw [List.drop_eq_getElem_cons hj, List.set_cons_zero]
  rfl
theorem small_sum (M : Int) : ∀ A : List (Int × Int), sumN (A.map (small M)) = sumN A
  | [] => rfl
  | p :: A => by
    have := small_sum M A
    unfold sumN at this ⊢
    rw [List.map_cons, List.map_cons, List.map_cons, List.sum_cons, List.sum_cons, this]; rfl
theorem small_key {M : Int} (hM : 1 ≤ M) {A : List (Int × Int)} : ∀ p ∈ A.map (small M), 0 ≤ p.1 ∧ p.1 < M := by
  intro p hp
  obtain ⟨q, _, rfl⟩ := List.mem_map.1 hp
  exact withI_bd q.1 M hM
theorem small_num {M a b : Int} {A : List (Int × Int)} (h : ∀ p ∈ A, a ≤ p.2 ∧ p.2 ≤ b) : ∀ p ∈ A.map (small M), a ≤ p.2 ∧ p.2 ≤ b := by
  intro p hp
  obtain ⟨q, hq, rfl⟩ := List.mem_map.1 hp
  exact h q hq
theorem wf_small {x : Int} (h0 : 0 ≤ x) (h1 : x < 1000) : wfI x := by
  simp [wfI, Lit.wf, IntKind.min, IntKind.max, IntKind.bits, IntKind.signed]; omega
theorem set_first {C : List (Int × Int)} {i : Nat} {key m s : Int} : (C.map iiC).set i ((iiC (key, m)).set 0 (.int .i64 s)) = (C.set i (s, m)).map iiC := by
  rw [List.map_set]; rfl
theorem lawMM : Maps.Keyed Try.prog 3 := Maps.int_keyed Try.underlying3
theorem put_first {a : Option Addr} {len cap : Nat} {w : World} (h : Tab w a len cap 2 (([] : List (Int × Int)).map iiC)) :
    Calls Try.prog 22 #[.agg #[.int .i64 2, .int .i64 0, .slice a len cap], .int .i64 6, .int .i64 2] w fun e w' => ∃ v, e = .returned (.tuple #[.agg #[.int .i64 2, .int .i64 0, v], .int .i64 0]) ∧ Own w' w.heap.size 43 2 v ([((6 : Int), (2 : Int))].map iiC) ∧ Below w.heap.size w w' := by
  have hz : putZ 2 [] 6 2 = 0 := by unfold putZ exC; rw [if_pos (by decide)]
  have hc : putC 2 [] 6 2 = [(6, 2)] := by unfold putC; rw [hz]; decide
  have he : Few.putE 2 0 [] 6 2 = 0 := by unfold Few.putE; rw [hz, hc]; decide
  refine (fewPut_any 2 0 a len cap [] 6 2 w h).mono ?_
  rintro e w' ⟨Kr, Lr, Cr, v, rfl, hO, hw, hb⟩
  rw [he, hz, hc] at hO
  rw [he]
  rcases hO with ⟨_, h4, h5, h6⟩ | ⟨h4, _⟩
  · subst h4 h5 h6
    exact ⟨v, rfl, hw, hb⟩
  · exact absurd rfl h4
theorem cell_in {w : World} {a : Addr} {v : Value} (h : w.cell? a = some v) : a.block < w.heap.size := by
  by_cases hb : a.block < w.heap.size
  · exact hb
  · rw [World.cell?, Array.getElem?_eq_none (by omega)] at h; cases h
theorem oftClo_any (X : Nat) (key kx nx : Int) (W : World) (hc : W.cell? ⟨X, 0, none⟩ = some (.int .i64 key)) : Calls Try.prog 32 #[.agg #[.int .i64 kx, .int .i64 nx], .pointer (some ⟨X, 0, none⟩)] W fun e w' => e = .returned (.bool (decide (kx = key))) ∧ Below W.heap.size W w' := by
  have hb : Below W.heap.size W (W.alloc (.cells #[.int .i64 kx, .int .i64 nx] 43)) := (Below.refl _ _).alloc (Nat.le_refl _) _
  have hX : X < W.heap.size := cell_in hc
  have hc2 := (hb.cell (p := ⟨X, 0, none⟩) hX).trans hc
  obtain ⟨e0, e1⟩ := pair_cells (MapKept.heap_alloc W (.cells #[.int .i64 kx, .int .i64 nx] 43)).1
  have HB := Lib.hid hb
  go_enter Try.func32, Try.ntmps32
  go_wp2
  go_ret
  exact ⟨rfl, HB.out⟩
/-- what comes more often than all that came over K + 1 has a counter -/
theorem often_has {K L : Int} {R C : List (Int × Int)} (h : Near K R L C) {x : Int} (hx : tot R < oft x R * (K + 1)) : C.any (fun p => decide (p.1 = x)) = true := by
  by_cases ha : C.any (fun p => decide (p.1 = x)) = true
  · exact ha
  · have h0 : oft x C = 0 := oft_none (fun c hc he => ha (List.any_eq_true.2 ⟨c, hc, by simpa using he⟩))
    have h1 := h.high x
    have h2 := h.sum
    have h3 := (tot_pos (C := C) (fun c hc => by have := (h.good.num c hc).1; omega)).1
    have h4 := h.good.k1
    have h5 : oft x R * (K + 1) ≤ L * (K + 1) := Int.mul_le_mul_of_nonneg_right (by omega) (by omega)
    omega

set_option maxRecDepth 100000 in
set_option maxHeartbeats 12000000 in
theorem walk (x0 : Int) (x1 : Sl (Sl Int)) (w : World) (w0 : (Lit.int .i64 x0).wf = true) (t1 : Tab w x1.a x1.len x1.cap 1 (x1.l.map slC)) (b1 : x1.len * 24 ≤ 140737488351232) (o1 : ∀ z ∈ x1.l, (fun y : Sl Int => Tab w y.a y.len y.cap 1 (y.l.map iC) ∧ y.len * 8 ≤ 140737488351232 ∧ ∀ z ∈ y.l, wfI z) z) :
    Calls Try.prog 5 #[.int .i64 x0, .slice x1.a x1.len x1.cap] w fun e w' => e = .returned (.bool true) ∧ Below w.heap.size w w' := by
  obtain ⟨a, len, cap, S⟩ := x1
  simp only at t1 o1 b1
  have C0 := Lib.hid (put_first (⟨rfl, Nat.le_refl _, by decide, fun _ => rfl, fun h => by omega⟩ : Tab w none 0 0 2 (([] : List (Int × Int)).map iiC)))
  have hd := withI_bd x0 5 (by decide)
  have HWN := Lib.hid (fun W => within_int x0 5 W (wf_i64 w0) (by omega) (by omega))
  generalize withI x0 5 = u at *
  obtain ⟨K, hK⟩ : ∃ K, 1 + u = K := ⟨_, rfl⟩
  have hK1 : 1 ≤ K := by omega
  have hK2 : K ≤ 5 := by omega
  have HK := Lib.hid hK
  have hu0 := hd.1
  have hu1 := hd.2
  clear hd hK
  have HCM := Lib.hid (fun (W : World) (hb : Below w.heap.size w W) => came_any a len cap S 20 W (t1.below hb) (fun z hz => ⟨((o1 z hz).1).below hb, (o1 z hz).2.2⟩) (by decide) (by decide))
  have hwf := came_wf (L := S) (fun z hz => (o1 z hz).2.2) (most := 20)
  have hAb := of_bd (most := 20) (by decide) (L := (S.take 60).map (fun s => s.l))
  have hAl : (Came.of 20 ((S.take 60).map (fun s => s.l))).length ≤ 60 := Nat.le_trans (of_len _ _) (by rw [List.length_map, List.length_take]; omega)
  have hAs := sumN_bd (most := 20) (by decide) hAb
  obtain ⟨A, hA⟩ : ∃ A, Came.of 20 ((S.take 60).map (fun s => s.l)) = A := ⟨_, rfl⟩
  rw [hA] at HCM hAb hAl hAs hwf
  have HAb := Lib.hid hAb
  have HAl := Lib.hid hAl
  have HWF := Lib.hid hwf
  obtain ⟨T, hT⟩ : ∃ T, sumN A = T := ⟨_, rfl⟩
  rw [hT] at hAs HCM
  have HT := Lib.hid hT
  have hT0 : 0 ≤ T := hAs.1
  have hT1 : T ≤ 1200 := by have := hAs.2; omega
  clear t1 o1 b1 hA hAb hAl hAs hT hwf w0
  go_enter Try.func5, Try.ntmps5
  go_wp2_with fail
  refine C0.out.mono ?_
  rintro e v1 ⟨q1, rfl, hO, hb⟩
  obtain ⟨a1, c1, rfl, hTq⟩ := own_ctrs (n := 1) hO rfl
  have hz := FV.new (K := 2) (L := 0) hTq
  have HB3 := Lib.hid (below_on hb hz.2)
  obtain ⟨v2, hv2⟩ : ∃ v, v1.alloc (.cells #[.int .i64 2, .int .i64 0, .slice a1 1 c1] 39) = v := ⟨_, rfl⟩
  rw [hv2] at HB3 hz
  obtain ⟨Y, hY⟩ : ∃ Y, v1.heap.size = Y := ⟨_, rfl⟩
  rw [hY] at hz
  have SY := Lib.hid hz.1
  have HVX := Lib.hid (And.intro hv2 hY)
  clear hz hb hO hTq hv2 hY C0
  go_upto_region 2 with fail
  rw [HVX.out.1, HVX.out.2]
  clear HVX
  obtain ⟨c0, d0, e0⟩ := SY.out.cells
  go_wp2_with fail
  refine (HWN.out _).mono ?_
  rintro e v4 ⟨rfl, hv4⟩
  rw [← hv4]
  clear hv4 HWN SY c0 d0 e0
  go_upto_region 5 with fail
  rw [HK.out]
  go_wp2_with fail
  refine (HCM.out _ HB3.out).mono ?_
  rintro e v5 ⟨qA, rfl, hO, hb⟩
  obtain ⟨nA, hnA⟩ : ∃ n, A.length = n := ⟨_, rfl⟩
  obtain ⟨aA, cA, rfl, hTA⟩ := own_ctrs hO hnA
  have HNA := Lib.hid hnA
  have hn60 : nA ≤ 60 := by rw [← hnA]; exact HAl.out
  have HB5 := Lib.hid (below_on HB3.out hb)
  have hOw := hO.base_le (B := w.heap.size) HB3.out.size
  rw [← rekey_zero 8 A] at hOw
  have HO5 := Lib.hid hOw
  clear hO hb hTA hnA HCM HB3 hOw
  go_wp2_with fail
  go_loopg [37] nA (fun g i wr => ∃ j : Nat, j + g = nA ∧ i = .int .i64 j ∧ Hid (Own wr w.heap.size 43 2 (.slice aA nA cA) ((rekey 8 A j).map iiC)) ∧ Hid (Below w.heap.size w wr))
  case atStart => exact ⟨0, by omega, rfl, HO5, HB5⟩
  case round =>
    clear HO5 HB5
    obtain ⟨j, hj0, rfl, HO, HB⟩ := hrel
    have HJ := Lib.hid hj0
    have hj : j ≤ nA := by omega
    clear hj0
    by_cases hlt : j < nA
    · obtain ⟨⟨x, m⟩, hx⟩ : ∃ x, A[j]? = some x := ⟨_, List.getElem?_eq_getElem (by rw [HNA.out]; exact hlt)⟩
      have hg := rekey_get (M := 8) hx
      obtain ⟨g, cap', hv⟩ := own_slice HO.out (i := j) (by rw [rekey_len, HNA.out]; exact hlt)
      rw [rekey_len, HNA.out] at hv
      simp only [Value.slice.injEq, true_and] at hv
      obtain ⟨rfl, rfl⟩ := hv
      obtain ⟨q0, q1, q2, q3⟩ := HO.out.at_ (i := j) (j := 0) (map_get hg) rfl
      have hs := HO.out.set_ (i := j) (j := 0) (map_get hg) (by decide) (.int .i64 (withI x 8))
      rw [set_first, rekey_set hx] at hs
      rw [Nat.add_zero] at q0 q1 hs
      have HS := Lib.hid hs
      have HBS := Lib.hid (HB.out.setCell (p := ⟨g, j * 2, none⟩) q2 (.int .i64 (withI x 8)))
      have hwx := wf_i64 (HWF.out _ (List.mem_of_getElem? hx))
      have HWX := Lib.hid (fun W => within_int x 8 W hwx (by omega) (by omega))
      generalize withI x 8 = y at *
      clear hx hg hs hwx
      obtain ⟨wo, hwo⟩ : ∃ wo, wo = wr := ⟨_, rfl⟩
      subst hwo
      go_wp2_with fail
      refine (HWX.out _).mono ?_
      rintro e w6 ⟨rfl, hw6⟩
      rw [← hw6]
      clear hw6 HWX
      go_wp2_with fail
      go_roundg (nA - (j + 1))
      case measure => have := HJ.out; omega
      case rel => exact ⟨j + 1, by omega, by go_num, HS, HBS⟩
    · obtain rfl : j = nA := by omega
      rw [rekey_all HNA.out] at HO
      have HB5 := HB
      have hAb2 := small_num (M := 8) HAb.out
      have hky := small_key (M := 8) (A := A) (by omega)
      have hS2 := small_sum 8 A
      rw [HT.out] at hS2
      have hAl2 : (A.map (small 8)).length = j := by rw [List.length_map, HNA.out]
      generalize A.map (small 8) = R at *
      have HAb2 := Lib.hid hAb2
      have HKY := Lib.hid hky
      have HS2 := Lib.hid hS2
      have HAl2 := Lib.hid hAl2
      have HRW : Hid (∀ p ∈ R, wfI p.1) := Lib.hid (fun p hp => wf_small (HKY.out p hp).1 (by have := (HKY.out p hp).2; omega))
      have TA := Lib.hid HO.out.tab_of
      have HH := Lib.hid (heard_any K aA j cA R wr TA.out (by omega) hK1 (by omega) (fun p hp => by have := HAb2.out p hp; omega) (by rw [← sumN_tot, HS2.out]; omega))
      obtain ⟨v5, hv5⟩ : ∃ v5, v5 = wr := ⟨_, rfl⟩
      subst hv5
      clear hAb2 hky hS2 hAl2 HO
      go_wp2_with fail
      refine HH.out.mono ?_
      rintro e v6 ⟨L, C, q, rfl, hN, hO, hb⟩
      obtain ⟨nC, hnC⟩ : ∃ n, C.length = n := ⟨_, rfl⟩
      obtain ⟨aC, cC, rfl, hTC⟩ := own_ctrs hO hnC
      have hz := FV.new (K := K) (L := L) hTC
      have HB7 := Lib.hid (below_on (below_on HB5.out hb) hz.2)
      replace TA := Lib.hid ((TA.out.below hb).below hz.2)
      obtain ⟨v7, hv7⟩ : ∃ v, v6.alloc (.cells #[.int .i64 K, .int .i64 L, .slice aC nC cC] 39) = v := ⟨_, rfl⟩
      rw [hv7] at HB7 hz TA
      obtain ⟨F, hF⟩ : ∃ Y, v6.heap.size = Y := ⟨_, rfl⟩
      rw [hF] at hz
      have SF := Lib.hid hz.1
      have HVX := Lib.hid (And.intro hv7 hF)
      have HN := Lib.hid hN
      clear hz hb hO hTC hv7 hF hN hnC HH
      go_upto_region 12 with fail
      rw [HVX.out.1, HVX.out.2]
      clear HVX
      obtain ⟨c0, d0, e0⟩ := SF.out.cells
      go_wp2_with fail
      clear c0 d0 e0
      have HCo := Lib.hid (counts_any aA j cA R v7 TA.out (by omega) (fun p hp => by have := HAb2.out p hp; omega) HRW.out (by rw [HS2.out]; omega))
      refine HCo.out.mono ?_
      rintro e v9 ⟨mb, rfl, hmb, hM, hb⟩
      have HB9 := Lib.hid (below_on HB7.out hb)
      replace SF := Lib.hid (SF.out.below hb)
      obtain ⟨DD, hD1, hD2, hD3, hD4⟩ := hM
      have HD := Lib.hid (And.intro hD3 hD4)
      have HO9 := Lib.hid hD1
      clear hb hmb HCo HB7 TA hD1 hD2 hD3 hD4
      go_wp2_with (at_range; refine wpList_range_own _ rfl _ 50 rfl 3 3 lawMM Try.underlying50 _ mb _ DD rfl HO9.out ?_; intro w7 hrg7 hg7 hs7)
      go_frame
      have HB10 : Hid (Below v9.heap.size v9 w7) := Lib.hid ((Below.refl _ _).grown hg7 (Nat.le_refl _) (fun q hq => by cases hq))
      have HRG := Lib.hid hrg7
      have HZS : Hid (Maps.size DD = Maps.size DD) := Lib.hid rfl
      generalize Maps.size DD = BN at *
      obtain ⟨RS, hRS⟩ : ∃ s, v9.heap.size = s := ⟨_, rfl⟩
      have HRS := Lib.hid hRS
      rw [hRS] at HRG
      try rw [hRS]
      clear hrg7 hg7 hs7 HO9 HZS hRS
      generalize R.reverse.length = RL at *
      go_loopg [13] BN (fun g s wx => ∃ (left : Lit → Bool) (cnt : Nat), Hid (cnt ≤ g) ∧ Hid (wx.ranges Try.prog 3 (plainElem Try.prog 3) mb RS RL DD left cnt) ∧ Hid (∀ kl, left kl = true → Maps.has DD kl = true) ∧ Hid (Below v9.heap.size v9 wx))
      case atStart => exact ⟨_, _, Lib.hid (Nat.le_refl _), HRG, Lib.hid (fun _ h => h), HB10⟩
      case round =>
        clear HRG HB10
        obtain ⟨left, cnt, HG, HR, HLf, HB⟩ := hrel
        go_wp2_with (at_next; refine wpList_next_ranges_ii _ rfl _ rfl 3 3 .i64 .i64 lawMM Try.underlying3 Try.underlying3 mb RS _ DD left cnt rfl HR.out ?_ ?_)
        · intro hc0 hl0
          go_wp2
          go_ret
          exact ⟨rfl, below_on HB9.out HB.out⟩
        · intro x c w1 cnt1 hwx hwc hlx hat hrg1 hlt1 hg1 hs1 hen
          have hc : c = oft x R := by
            have h := hat (.lit (.int .i64 0))
            rw [HD.out.1 x, oft_reverse] at h
            simp only [DataW.lit.injEq, Lit.int.injEq, true_and] at h
            exact h.symm
          have hbd := oft_bd (z := x) (C := R) (fun p hp => by have := (HAb2.out p hp).1; omega)
          rw [← hc, HS2.out] at hbd
          have hc0 := hbd.1
          have hc1 := hbd.2
          have hm0 : 0 ≤ c * (K + 1) := Int.mul_nonneg hc0 (by omega)
          have hm1 : c * (K + 1) ≤ 1200 * 6 := Int.mul_le_mul (by omega) (by omega) (by omega) (by omega)
          have hb1 : Below v9.heap.size v9 w1 := HB.out.grown hg1 HB.out.size (fun q hq => by cases hq; rw [HRS.out]; exact Nat.le_refl _)
          have HX1 := Lib.hid (show Below w1.heap.size w1 (w1.alloc (.cells #[.int .i64 x] 3)) from (Below.refl _ _).alloc (Nat.le_refl _) _)
          obtain ⟨X, hX⟩ : ∃ X, w1.heap.size = X := ⟨_, rfl⟩
          have HXc : Hid ((w1.alloc (.cells #[.int .i64 x] 3)).cell? ⟨X, 0, none⟩ = some (.int .i64 x)) := Lib.hid (by rw [← hX]; exact cell_blk (MapKept.heap_alloc w1 (.cells #[.int .i64 x] 3)).1 rfl)
          have HB1 := Lib.hid (below_on hb1 HX1.out)
          have HR1 := Lib.hid (Lib.hid hrg1 |>.out.kept (row := none) ⟨HX1.out.os, HX1.out.tape, HX1.out.output, HX1.out.size, fun k hk _ => HX1.out.block k hk⟩ (by simp) (by simp))
          have HC1 := Lib.hid hlt1
          have HL1 : Hid (∀ kl, (left kl && !kl.sameKey (.int .i64 x)) = true → Maps.has DD kl = true) := Lib.hid (fun kl h => HLf.out kl (by rw [Bool.and_eq_true] at h; exact h.1))
          obtain ⟨w2, hw2⟩ : ∃ v, w1.alloc (.cells #[.int .i64 x] 3) = v := ⟨_, rfl⟩
          rw [hw2] at HXc HB1 HR1
          have SF1 := Lib.hid (SF.out.below HB1.out)
          have HV2 := Lib.hid (And.intro hw2 hX)
          have HOF := Lib.hid hc
          clear hwx hwc hlx hat hrg1 hlt1 hg1 hs1 hb1 hc hbd HX1 hw2 hX
          go_upto_region 17 with fail
          rw [HV2.out.1, HV2.out.2]
          clear HV2
          obtain ⟨c0, d0, e0⟩ := SF1.out.cells
          by_cases hgt : T < c * (K + 1)
          · have hdt : decide (c * (K + 1) > T) = true := by simpa using hgt
            have hany : C.any (fun p => decide (p.1 = x)) = true := often_has HN.out (by rw [← HOF.out, ← sumN_tot, HS2.out]; exact hgt)
            have CA := containsCtr1_any 32 (.pointer (some ⟨X, 0, none⟩)) (fun p => decide (p.1 = x)) aC nC cC C w2 SF1.out.2 (fun _ _ _ => rfl) (fun p _ W hW => oftClo_any X x p.1 p.2 W ((hW.cell (p := ⟨X, 0, none⟩) (cell_in HXc.out)).trans HXc.out))
            rw [hany] at CA
            replace CA := Lib.hid CA
            clear hany
            go_wp2_with fail
            clear c0 d0 e0
            refine CA.out.mono ?_
            rintro e w8 ⟨rfl, hb8⟩
            have HB8 := Lib.hid (below_on HB1.out hb8)
            have HR8 := Lib.hid (HR1.out.kept (row := none) ⟨hb8.os, hb8.tape, hb8.output, hb8.size, fun k hk _ => hb8.block k hk⟩ (by simp) (by simp))
            clear hb8 CA HR1 HB1
            go_wp2_with fail
            go_roundg cnt1
            case measure => have h1 := HG.out; have h2 := HC1.out; omega
            case rel => exact ⟨_, cnt1, Lib.hid (Nat.le_refl _), HR8, HL1, HB8⟩
          · have hdt : decide (c * (K + 1) > T) = false := by simpa using hgt
            have HB8 := HB1
            have HR8 := HR1
            go_wp2_with fail
            go_roundg cnt1
            case measure => have h1 := HG.out; have h2 := HC1.out; omega
            case rel => exact ⟨_, cnt1, Lib.hid (Nat.le_refl _), HR8, HL1, HB8⟩

set_option maxRecDepth 100000 in
theorem lifted (os : Os) (started : os.Started) (H : Type) (enc : TypeId × Value → H) :
    ReturnsInHanded {} Try.checked os 5 .any (Rows.fewOftenSpec.pre6 enc Try.prog Try.f5 Rows.fewOftenRow.domain false) (Rows.fewOftenSpec.post enc Try.prog Try.f5 false true false false) := by
  refine returnsInHanded_of_change_sized (C := Try.checked) own started (by kernel_rfl) Try.func5
    (ChangeSpec.witness6 (enc := enc) (C := Try.checked) false ⟨#[], #[.int .i64 0, .slice none 0 0], []⟩ 8 (by kernel_rfl) (by kernel_rfl) (by kernel_rfl) (by kernel_rfl)) ?_
  intro W base args ds gs before hval0 hW hcnd hsz0 _
  have hval : ∀ (j : Nat) t v, Try.f5.params[j]? = some t → args[j]? = some v → Value.okWide Try.prog W .any base t v := hval0
  have hW' := hW
  obtain ⟨p, q, hA0, hV, rfl, hfz, hnd⟩ := hW
  have hA : DataW.TrodAll enc Try.prog W 0 (fun _ => true) true Try.f5.params.toList args.toList ds p := hA0
  have hsz : (DataW.weightsEach Try.prog (Try.f5.params.toList ++ Rows.fewOftenSpec.plain.varTypes Try.prog) (ds ++ gs)).all (· ≤ reachBytes) = true := hsz0
  rw [Try.params5] at hA hval hsz
  obtain ⟨v0, vs0, d0, ds0, p0, q0, hargs, rfl, rfl, h0, r0⟩ := trodAll_cons hA
  obtain ⟨v1, vs1, d1, ds1, p1, q1, rfl, rfl, rfl, h1, r1⟩ := trodAll_cons r0
  obtain ⟨rfl, rfl, rfl⟩ := trodAll_nil r1
  obtain rfl : args = #[v0, v1] := by cases args; simp_all
  obtain ⟨rfl, rfl⟩ := trodVars_none hV
  have k0 := h0
  have L0 := light_of hsz (j := 0) (t := 3) (d := d0) rfl rfl
  have lt0 : ∀ x ∈ p0, x.block < W.heap.size := by obtain ⟨m, hm⟩ := k0; exact DataW.trod_lt m _ _ _ hm
  obtain ⟨x0, rfl, rfl, rfl, w0⟩ := open_int Try.underlying3 (hval 0 3 v0 rfl rfl) h0
  have k1 := h1
  have L1 := light_of hsz (j := 1) (t := 36) (d := d1) rfl rfl
  have lt1 : ∀ x ∈ p1, x.block < W.heap.size := by obtain ⟨m, hm⟩ := k1; exact DataW.trod_lt m _ _ _ hm
  obtain ⟨a1, len1, cap1, rfl⟩ := okWide_slice Try.underlying36 (hval 1 36 v1 rfl rfl)
  obtain ⟨n1, f1⟩ := trod_slice_of Try.underlying36 h1
  have F1 := And.intro f1 L1
  obtain ⟨x1, e1, t1, b1, o1⟩ := el_slice (w := W) (k := 1) slC (fun y : Sl Int => Tab W y.a y.len y.cap 1 (y.l.map iC) ∧ y.len * 8 ≤ 140737488351232 ∧ ∀ z ∈ y.l, wfI z) (by decide) Try.underlying36 (by kernel_rfl) (el_slice (k := 1) iC wfI (by decide) Try.underlying22 (by kernel_rfl) (el_int Try.underlying3) (B := 8) (by kernel_rfl)) (B := 24) (by kernel_rfl) _ _ _ F1.1 F1.2
  simp only [slC, List.cons.injEq, Value.slice.injEq, and_true] at e1
  obtain ⟨rfl, rfl, rfl⟩ := e1
  clear hA0 hval0
  refine (walk x0 x1 W w0 t1 b1 o1).mono fun e W' ⟨he, hg⟩ => ?_
  subst he
  exact ⟨_, rfl, _, _, _, [], _, [], hW', trodAll_mk1 (shut_bool Try.underlying4 _), (trodAll_cons_mk (Below.trod laidOut (by kernel_rfl) (of_decide_eq_true (by kernel_rfl)) k0 hg lt0) (trodAll_cons_mk (Below.trod laidOut (by kernel_rfl) (of_decide_eq_true (by kernel_rfl)) k1 hg lt1) trodAll_mk0)), rfl, hg.frame _, fun h => by cases h⟩

theorem over : Rows.fewOftenRow.holds Try.pinned (OpenSpec.ofChange Rows.fewOftenSpec) :=
  OpenClaim.holds_of_wide 5 Try.f5 rfl rfl rfl rfl rfl rfl rfl ⟨rfl, rfl, rfl, rfl, rfl⟩ rfl rfl rfl rfl rfl (by kernel_rfl) Try.func5 (by kernel_rfl)
    (of_decide_eq_true (by kernel_rfl)) (by unfold Func.isWrapper; first | (rw [if_pos (by decide +kernel)]; kernel_rfl) | (rw [if_neg (by decide +kernel)]; exact ⟨rfl, rfl⟩))
    (fun os started H enc _ => lifted os started H enc)

/-- ████ THE STATEMENT ████ -/
theorem proved : Rows.FewOftenSaid :=
  over
#print axioms proved
end Go.Proofs.Ytffgoekdjcempaa.fewOften
