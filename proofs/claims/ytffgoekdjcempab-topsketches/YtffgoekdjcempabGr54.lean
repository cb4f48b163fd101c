/- Texts joined: EqualBools, SameF, TabSame. -/
import Derived.Test.YtffgoekdjcempabGr8
import Derived.Test.YtffgoekdjcempabGr50
import Derived.Test.YtffgoekdjcempabGr15
/- The contract of slices.Equal on slices of bool: true just if the two have the same elements; nothing old has turned. -/
namespace Go.Proofs.Ytffgoekdjcempab
open Go.ChangeShapes Go.WideShapes Go.ChangeAt Go.RowKit

set_option maxRecDepth 100000 in
set_option maxHeartbeats 1000000 in
theorem equal_bools (a b : Option Addr) (la ca lb cb : Nat) (l m : List Bool) (w : World) (h1 : Tab w a la ca 1 (l.map bC)) (h2 : Tab w b lb cb 1 (m.map bC)) (c : Bool) (hc : c = true ↔ l = m) :
    Calls Try.prog 26 #[.slice a la ca, .slice b lb cb] w fun e w' => e = .returned (.bool c) ∧ Below w.heap.size w w' := by
  have l1 := h1.hlen
  have l2 := h2.hlen
  have m1 := h1.hmax
  have e1 := h1.hle
  rw [List.length_map] at l1 l2
  unfold maxLen at m1
  have H1 := Lib.hid h1
  have H2 := Lib.hid h2
  have L1 := Lib.hid l1
  have L2 := Lib.hid l2
  have HC := Lib.hid hc
  clear h1 h2 hc
  by_cases hl : la = lb
  · subst hl
    have t0 : ((la : Int) != (la : Int)) = false := by simp
    clear l1 l2
    go_enter Try.func26, Try.ntmps26
    go_wp2
    go_loopw [13] (fun i wr => ∃ k : Nat, k ≤ la ∧ i = .int .i64 k ∧ l.take k = m.take k ∧ Below w.heap.size w wr) (fun i _ => la - (intOf i).toNat)
    case atStart => exact ⟨0, Nat.zero_le _, rfl, rfl, Below.refl _ _⟩
    case round =>
      obtain ⟨k, hk, rfl, ht, hb⟩ := hrel
      have HT := Lib.hid ht
      clear ht
      by_cases hlt : k < la
      · obtain ⟨x, hx⟩ : ∃ x, l[k]? = some x := ⟨_, List.getElem?_eq_getElem (by rw [L1.out]; exact hlt)⟩
        obtain ⟨y, hy⟩ : ∃ y, m[k]? = some y := ⟨_, List.getElem?_eq_getElem (by rw [L2.out]; exact hlt)⟩
        obtain ⟨b1, o1, ha, hbs, c1⟩ := H1.out.one hb (map_get hx)
        obtain ⟨b2, o2, hc, hbt, c2⟩ := H2.out.one hb (map_get hy)
        have HX := Lib.hid hx
        have HY := Lib.hid hy
        clear hx hy
        rw [ha, hc]
        clear ha hc
        by_cases hxy : x = y
        · have t1 : (x == y) = true := by rw [hxy]; simp
          have HE := Lib.hid hxy
          clear hxy
          go_wp2
          go_quiet (fail)
          go_wp2
          go_roundw
          case rel => exact ⟨k + 1, by omega, by go_num, take_next HT.out HX.out HY.out HE.out, below_drewN hb _⟩
          case measure => simp [intOf]; omega
        · have t1 : (x == y) = false := beq_eq_false_iff_ne.2 hxy
          have HE := Lib.hid hxy
          clear hxy
          go_wp2
          go_quiet (fail)
          go_wp2
          go_ret
          exact ⟨by rw [bool_no HC.out (not_of_at HX.out HY.out HE.out)]; rfl, below_drewN hb _⟩
      · have e : l = m := by
          have := HT.out
          rw [List.take_of_length_le (by rw [L1.out]; omega), List.take_of_length_le (by rw [L2.out]; omega)] at this
          exact this
        have HE := Lib.hid e
        clear e
        go_wp2
        go_ret
        exact ⟨by rw [HC.out.2 HE.out]; rfl, hb⟩
  · have t0 : ((la : Int) != (lb : Int)) = true := by rw [bne_iff_ne]; omega
    have hne : ¬ l = m := by intro e; rw [e] at l1; omega
    have HE := Lib.hid hne
    clear hne l1 l2 hl
    go_enter Try.func26, Try.ntmps26
    go_wp2
    go_ret
    exact ⟨by rw [bool_no HC.out HE.out]; rfl, Below.refl _ _⟩

end Go.Proofs.Ytffgoekdjcempab

/- The contract of the document's own comparison of filters (culref.SameFilter). -/
namespace Go.Proofs.Ytffgoekdjcempab
open Go.ChangeShapes Go.WideShapes Go.ChangeAt Go.RowKit
open Bloom

set_option maxRecDepth 100000 in
set_option maxHeartbeats 1000000 in
theorem sameF_any (S K S2 K2 : Int) (a b : Option Addr) (la ca lb cb : Nat) (l m : List Bool) (w : World) (h1 : Tab w a la ca 1 (l.map bC)) (h2 : Tab w b lb cb 1 (m.map bC)) (c : Bool) (hc : c = true ↔ S = S2 ∧ K = K2 ∧ l = m) :
    Calls Try.prog 15 #[.agg #[.int .i64 S, .int .i64 K, .slice a la ca], .agg #[.int .i64 S2, .int .i64 K2, .slice b lb cb]] w fun e w' => e = .returned (.bool c) ∧ Below w.heap.size w w' := by
  have hbx : Below w.heap.size w ((w.alloc (.cells #[.int .i64 S, .int .i64 K, .slice a la ca] 24)).alloc (.cells #[.int .i64 S2, .int .i64 K2, .slice b lb cb] 24)) := ((Below.refl _ _).alloc (Nat.le_refl _) _).alloc (by simp) _
  have HBX := Lib.hid hbx
  by_cases hk : S = S2
  · subst hk
    have t1 : (S == S) = true := by simp
    by_cases hk2 : K = K2
    · subst hk2
      have HQ := Lib.hid (equal_bools a b la ca lb cb l m _ (h1.below hbx) (h2.below hbx) c (by rw [hc]; simp))
      have t2 : (K == K) = true := by simp
      clear h1 h2 hc hbx
      go_enter Try.func15, Try.ntmps15
      go_wp2_with fail
      refine HQ.out.mono ?_
      rintro e w1 ⟨rfl, hb1⟩
      have HB1 := Lib.hid (below_on HBX.out hb1)
      clear hb1 HQ
      go_wp2
      go_ret
      exact ⟨rfl, HB1.out⟩
    · obtain rfl : c = false := by
        cases c with
        | false => rfl
        | true => exact absurd (hc.1 rfl).2.1 hk2
      have t2 : (K == K2) = false := by simpa using hk2
      clear h1 h2 hc hbx hk2
      go_enter Try.func15, Try.ntmps15
      go_wp2
      go_ret
      exact ⟨rfl, HBX.out⟩
  · obtain rfl : c = false := by
      cases c with
      | false => rfl
      | true => exact absurd (hc.1 rfl).1 hk
    have t1 : (S == S2) = false := by simpa using hk
    clear h1 h2 hc hbx hk
    go_enter Try.func15, Try.ntmps15
    go_wp2
    go_ret
    exact ⟨rfl, HBX.out⟩
end Go.Proofs.Ytffgoekdjcempab

/- The contract of the document's own comparison of sketches (culref.SameTable), with slices.EqualFunc. -/
namespace Go.Proofs.Ytffgoekdjcempab
open Go.ChangeShapes Go.WideShapes Go.ChangeAt Go.RowKit
open Tbl

set_option maxRecDepth 100000 in
set_option maxHeartbeats 1000000 in
theorem sameClo_any (a b : Option Addr) (la ca lb cb : Nat) (l m : List Int) (w : World) (h1 : Tab w a la ca 1 (l.map iC)) (h2 : Tab w b lb cb 1 (m.map iC)) :
    Calls Try.prog 57 #[.slice a la ca, .slice b lb cb] w fun e w' => e = .returned (.bool (decide (l = m))) ∧ Below w.heap.size w w' := by
  have HC := Lib.hid (equal_ints a b la ca lb cb l m w h1 h2 (decide (l = m)) (by simp))
  clear h1 h2
  generalize decide (l = m) = d at *
  go_enter Try.func57, Try.ntmps57
  go_wp2_with fail
  refine HC.out.mono ?_
  rintro e w1 ⟨rfl, hb⟩
  go_wp2
  go_ret
  exact ⟨rfl, hb⟩

set_option maxRecDepth 100000 in
set_option maxHeartbeats 2000000 in
theorem equalFunc_any (a b : Option Addr) (la ca lb cb : Nat) (R Q : List (List Int)) (P P2 : Nat → Prop) (w : World) (h1 : TTx w P a la ca R) (h2 : TTx w P2 b lb cb Q) (c : Bool) (hc : c = true ↔ R = Q) :
    Calls Try.prog 56 #[.slice a la ca, .slice b lb cb, .func (.func 57) #[] #[]] w fun e w' => e = .returned (.bool c) ∧ Below w.heap.size w w' := by
  have hl1 := h1.len
  have hl2 := h2.len
  have hm1 := h1.max
  have hm2 := h2.max
  by_cases hl : la = lb
  · subst hl
    have t : ((la : Int) != (la : Int)) = false := by simp
    have HT1 := Lib.hid h1
    have HT2 := Lib.hid h2
    have HL := Lib.hid (And.intro hl1 hl2)
    have HC := Lib.hid hc
    have hrun : ∀ (u v : Value) (W : World), (callFunc 57 #[u, v]).run Try.prog W = .ok (.enter 57 #[u, v]) W := fun _ _ _ => rfl
    clear h1 h2 hl1 hl2 hc
    go_enter Try.func56, Try.ntmps56
    go_wp2_with fail
    go_loopg [17] la (fun g i wr => ∃ k : Nat, k + g = la ∧ i = .int .i64 k ∧ Hid (R.take k = Q.take k) ∧ Hid (Below w.heap.size w wr))
    case atStart => exact ⟨0, by omega, rfl, Lib.hid rfl, Lib.hid (Below.refl _ _)⟩
    case round =>
      obtain ⟨k, hk0, rfl, HN, HW⟩ := hrel
      have HJ := Lib.hid hk0
      have hk : k ≤ la := by omega
      clear hk0
      by_cases hlt : k < la
      · obtain ⟨r, hr⟩ : ∃ x, R[k]? = some x := ⟨_, List.getElem?_eq_getElem (by rw [HL.out.1]; exact hlt)⟩
        obtain ⟨q, hq⟩ : ∃ x, Q[k]? = some x := ⟨_, List.getElem?_eq_getElem (by rw [HL.out.2]; exact hlt)⟩
        obtain ⟨b1, o1, qa, qn, qc, ha, hbs, c0, hTq, _, _, _⟩ := HT1.out.row HW.out hr
        obtain ⟨b2, o2, ra, rn, rc, hb, hbs2, d0, hTr, _, _, _⟩ := HT2.out.row HW.out hq
        have HX := Lib.hid (sameClo_any qa ra qn qc rn rc r q wr hTq hTr)
        have HR := Lib.hid (And.intro hr hq)
        subst ha hb
        clear hr hq hTq hTr
        by_cases he : r = q
        · rw [decide_eq_true he] at HX
          have HN2 : Hid (R.take (k + 1) = Q.take (k + 1)) := Lib.hid (by rw [List.take_add_one, List.take_add_one, HN.out, HR.out.1, HR.out.2, he])
          clear he
          go_wp2_with fail
          refine HX.out.mono ?_
          rintro e w1 ⟨rfl, hb⟩
          have HB := Lib.hid (below_on HW.out hb)
          clear hb
          go_wp2_with fail
          go_roundg (la - (k + 1))
          case measure => have := HJ.out; omega
          case rel => exact ⟨k + 1, by omega, by go_num, HN2, HB⟩
        · rw [decide_eq_false he] at HX
          obtain rfl : c = false := by
            cases c with
            | false => rfl
            | true =>
              have h := HC.out.1 rfl
              rw [h] at HR
              have := HR.out.1.symm.trans HR.out.2
              exact absurd (Option.some.inj this) he
          clear he
          go_wp2_with fail
          refine HX.out.mono ?_
          rintro e w1 ⟨rfl, hb⟩
          have HB := Lib.hid (below_on HW.out hb)
          clear hb
          go_wp2
          go_ret
          exact ⟨rfl, HB.out⟩
      · obtain rfl : k = la := by omega
        obtain rfl : c = true := HC.out.2 (by
          have h := HN.out
          rw [List.take_of_length_le (by rw [HL.out.1]; exact Nat.le_refl _), List.take_of_length_le (by rw [HL.out.2]; exact Nat.le_refl _)] at h
          exact h)
        go_wp2
        go_ret
        exact ⟨rfl, HW.out⟩
  · obtain rfl : c = false := by
      cases c with
      | false => rfl
      | true =>
        have h := hc.1 rfl
        rw [h] at hl1
        omega
    have t : ((la : Int) != (lb : Int)) = true := by simpa using (by omega : ¬ (la : Int) = (lb : Int))
    clear h1 h2 hl1 hl2 hc hl
    go_enter Try.func56, Try.ntmps56
    go_wp2
    go_ret
    exact ⟨rfl, Below.refl _ _⟩

set_option maxRecDepth 100000 in
set_option maxHeartbeats 1000000 in
theorem sameT_any (W V : Int) (a b : Option Addr) (la ca lb cb : Nat) (R Q : List (List Int)) (P P2 : Nat → Prop) (w : World) (h1 : TTx w P a la ca R) (h2 : TTx w P2 b lb cb Q) (c : Bool) (hc : c = true ↔ W = V ∧ R = Q) :
    Calls Try.prog 16 #[.agg #[.int .i64 W, .slice a la ca], .agg #[.int .i64 V, .slice b lb cb]] w fun e w' => e = .returned (.bool c) ∧ Below w.heap.size w w' := by
  have hbx : Below w.heap.size w ((w.alloc (.cells #[.int .i64 W, .slice a la ca] 27)).alloc (.cells #[.int .i64 V, .slice b lb cb] 27)) := ((Below.refl _ _).alloc (Nat.le_refl _) _).alloc (by simp) _
  have HBX := Lib.hid hbx
  by_cases hk : W = V
  · subst hk
    have t1 : (W == W) = true := by simp
    have HQ := Lib.hid (equalFunc_any a b la ca lb cb R Q P P2 _ (h1.below hbx) (h2.below hbx) c (by rw [hc]; simp))
    clear h1 h2 hc hbx
    go_enter Try.func16, Try.ntmps16
    go_wp2_with fail
    refine HQ.out.mono ?_
    rintro e w1 ⟨rfl, hb1⟩
    have HB1 := Lib.hid (below_on HBX.out hb1)
    clear hb1 HQ
    go_wp2
    go_ret
    exact ⟨rfl, HB1.out⟩
  · obtain rfl : c = false := by
      cases c with
      | false => rfl
      | true => exact absurd (hc.1 rfl).1 hk
    have t1 : (W == V) = false := by simpa using hk
    clear h1 h2 hc hbx hk
    go_enter Try.func16, Try.ntmps16
    go_wp2
    go_ret
    exact ⟨rfl, HBX.out⟩
end Go.Proofs.Ytffgoekdjcempab
