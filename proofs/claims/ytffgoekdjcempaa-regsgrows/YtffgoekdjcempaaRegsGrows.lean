/-
  'Rows.RegsGrowsSaid' is proved: a value that is put decreases no register and changes at most one; a value that begins with more noughts gives no less. No condition.
-/
import Derived.Test.YtffgoekdjcempaaRows
import Derived.Test.YtffgoekdjcempaaShapes
import Derived.Test.YtffgoekdjcempaaRegsPut
import Derived.Test.YtffgoekdjcempaaRegsJoin
import Derived.Test.YtffgoekdjcempaaRegsRow
import Derived.Test.YtffgoekdjcempaaRegsBig
import Derived.Test.YtffgoekdjcempaaEqualInts
import Derived.Test.YtffgoekdjcempaaEqualQuiet
import Derived.Test.YtffgoekdjcempaaLit
import Derived.Deep.DeepCutAuto
import Derived.Deep.LoopGhost
import Derived.BigQuiet
import Derived.Deep.QuietTactic
import Derived.RegionTactic
import Derived.BigRegion
import Derived.WalkKit
import Derived.ProofKit
import Derived.OpenShut
import Derived.ShutString
import Derived.ChangeOld
import Derived.Below
namespace Go.Proofs.Ytffgoekdjcempaa.regsGrows
open Go.ChangeShapes Go.WideShapes Go.ChangeAt Go.RowKit
open Go.ChangeMaps (open_string shut_string)
set_option linter.unusedVariables false

theorem own : ownKnob Try.prog.godebug = none := by kernel_rfl
theorem laidOut : laidOutB Try.prog = true := by kernel_rfl

--BEATS
open Regs
theorem lit_put1 : putE [3] 36028797018963968 = 0 ∧ putL [3] 36028797018963968 = [3] := by decide +kernel
theorem lit_put2 : putE [3] 1099511627776 = 0 ∧ putL [3] 1099511627776 = [16] := by decide +kernel
theorem len_mono : ∀ (f : Nat) {x y : Nat}, x ≤ y → Lib.bitLenAux f x ≤ Lib.bitLenAux f y
  | 0, _, _, _ => Nat.le_refl _
  | f + 1, x, y, h => by
    rw [Lib.bitLenAux, Lib.bitLenAux]
    by_cases hx : x = 0
    · rw [if_pos hx]; exact Nat.zero_le _
    · rw [if_neg hx, if_neg (by omega)]
      exact Nat.add_le_add_left (len_mono f (Nat.div_le_div_right h)) 1
theorem noughts_mono {m n of : Int} (h : m / of ≤ n / of) : noughtsR n of ≤ noughtsR m of := by
  unfold noughtsR Lib.bitLen
  have := len_mono 64 (x := (m / of).toNat) (y := (n / of).toNat) (by omega)
  omega
/-- the place that is put to, and what stands there then -/
theorem put_is {l : List Int} {n : Int} {k : Nat} {x : Int} (hk : n % (l.length : Int) = (k : Int)) (hx : l[k]? = some x) : putR l n = l.set k (max x (noughtsR n l.length)) := by
  unfold putR
  rw [hk]
  simp only [Int.toNat_natCast]
  rw [List.getD_eq_getElem?_getD, hx]; rfl
theorem put_good {l : List Int} {n : Int} (h : putE l n = 0) : regE (putR l n) = 0 ∧ (putR l n).length = l.length := by
  obtain ⟨h1, h2, h3⟩ := putE_zero.1 h
  obtain ⟨p1, p2⟩ := regE_zero.1 h1
  obtain ⟨q1, q2⟩ := lenR_pos p1
  obtain ⟨k, hk⟩ : ∃ k : Nat, n % (l.length : Int) = (k : Int) := ⟨(n % (l.length : Int)).toNat, by have := Int.emod_nonneg n (show (l.length : Int) ≠ 0 by omega); omega⟩
  have hkl : k < l.length := by have := Int.emod_lt_of_pos n (show (0 : Int) < l.length by omega); omega
  have hx := List.getElem?_eq_getElem hkl
  have hl : (putR l n).length = l.length := by rw [put_is hk hx, List.length_set]
  refine ⟨regE_zero.2 ⟨by rw [hl]; exact p1, fun y hy => ?_⟩, hl⟩
  rw [put_is hk hx] at hy
  rcases List.mem_or_eq_of_mem_set hy with hy | rfl
  · exact p2 y hy
  · have := p2 _ (List.getElem_mem hkl)
    have hn : noughtsR n l.length ≤ 57 := by unfold noughtsR; omega
    omega

set_option maxRecDepth 100000 in
set_option maxHeartbeats 12000000 in
theorem walk (x0 : Sl Int) (x1 : Int) (w : World) (t0 : Tab w x0.a x0.len x0.cap 1 (x0.l.map iC)) (b0 : x0.len * 8 ≤ 140737488351232) (o0 : ∀ z ∈ x0.l, wfI z) (w1 : (Lit.int .i64 x1).wf = true) :
    Calls Try.prog 12 #[.slice x0.a x0.len x0.cap, .int .i64 x1] w fun e w' => e = .returned (.bool true) ∧ Below w.heap.size w w' := by
  obtain ⟨a, len, cap, L⟩ := x0
  simp only at t0 o0 b0
  generalize x1 = n at *
  have hm := t0.hmax
  have hle := t0.hle
  unfold maxLen at hm
  have hl : L.length = len := by have h := t0.hlen; rw [List.length_map] at h; exact h
  have hb0 : Below w.heap.size w (w.alloc (.cells #[.int .i64 3] 3)) := (Below.refl _ _).alloc (Nat.le_refl _) _
  have C1 := regsPut_any (some ⟨w.heap.size, 0, none⟩) 1 1 [3] 36028797018963968 _ (tab_lit w 3 1 1 ([(3 : Int)].map iC) #[.int .i64 3] rfl rfl (rows_of iC_len _) (by decide) _ rfl)
  rw [lit_put1.1, lit_put1.2] at C1
  replace C1 := Lib.hid C1
  have C2 : Hid (∀ W : World, Calls Try.prog 13 #[.slice (some ⟨W.heap.size, 0, none⟩) 1 1, .int .i64 1099511627776] (W.alloc (.cells #[.int .i64 3] 3)) fun e w' => ∃ v, e = .returned (.tuple #[v, .int .i64 0]) ∧ Own w' (W.alloc (.cells #[.int .i64 3] 3)).heap.size 3 1 v ([(16 : Int)].map iC) ∧ Below (W.alloc (.cells #[.int .i64 3] 3)).heap.size (W.alloc (.cells #[.int .i64 3] 3)) w') := Lib.hid (fun W => by
    have h := regsPut_any (some ⟨W.heap.size, 0, none⟩) 1 1 [3] 1099511627776 _ (tab_lit W 3 1 1 ([(3 : Int)].map iC) #[.int .i64 3] rfl rfl (rows_of iC_len _) (by decide) _ rfl)
    rw [lit_put2.1, lit_put2.2] at h
    exact h)
  have HA := Lib.hid (fun (W : World) (hb : Below w.heap.size w W) => regsPut_any a len cap L n W (t0.below hb))
  have HT := Lib.hid t0
  have HL := Lib.hid hl
  have HB0 := Lib.hid hb0
  clear hb0 hl t0 o0 b0
  go_enter Try.func12, Try.ntmps12
  go_wp2_with fail
  refine C1.out.mono ?_
  rintro e v1 ⟨q, rfl, hO1, hb1⟩
  obtain ⟨aq, cq, rfl, hTq⟩ := own_ints (K := 1) hO1 rfl
  have HB1 := Lib.hid (below_on HB0.out hb1)
  have hal : Below v1.heap.size v1 (v1.alloc (.cells #[.int .i64 3] 3)) := (Below.refl _ _).alloc (Nat.le_refl _) _
  have E1 := Lib.hid (equal_ints aq (some ⟨v1.heap.size, 0, none⟩) _ cq 1 1 [3] [3] (v1.alloc (.cells #[.int .i64 3] 3)) (hTq.below hal) (tab_lit v1 3 1 1 ([(3 : Int)].map iC) #[.int .i64 3] rfl rfl (rows_of iC_len _) (by decide) _ rfl) true (by simp))
  have HAL := Lib.hid hal
  clear hO1 hTq hb1 hal C1 HB0
  go_wp2_with fail
  refine E1.out.mono ?_
  rintro e v2 ⟨rfl, hb⟩
  have HB2 := Lib.hid (below_on HB1.out (below_on HAL.out hb))
  have hal : Below v2.heap.size v2 (v2.alloc (.cells #[.int .i64 3] 3)) := (Below.refl _ _).alloc (Nat.le_refl _) _
  have HAL2 := Lib.hid hal
  have D2 := Lib.hid (C2.out v2)
  clear hb HAL HB1 E1 hal C2
  go_wp2_with fail
  refine D2.out.mono ?_
  rintro e v3 ⟨q, rfl, hO1, hb1⟩
  obtain ⟨aq2, cq2, rfl, hTq⟩ := own_ints (K := 1) hO1 rfl
  have HB3 := Lib.hid (below_on (below_on HB2.out HAL2.out) hb1)
  have hal : Below v3.heap.size v3 (v3.alloc (.cells #[.int .i64 16] 3)) := (Below.refl _ _).alloc (Nat.le_refl _) _
  have E1 := Lib.hid (equal_ints aq2 (some ⟨v3.heap.size, 0, none⟩) _ cq2 1 1 [16] [16] (v3.alloc (.cells #[.int .i64 16] 3)) (hTq.below hal) (tab_lit v3 3 1 1 ([(16 : Int)].map iC) #[.int .i64 16] rfl rfl (rows_of iC_len _) (by decide) _ rfl) true (by simp))
  have HAL := Lib.hid hal
  clear hO1 hTq hb1 hal D2 HAL2 HB2
  go_wp2_with fail
  refine E1.out.mono ?_
  rintro e v4 ⟨rfl, hb⟩
  have HB4 := Lib.hid (below_on HB3.out (below_on HAL.out hb))
  have D3 := Lib.hid (HA.out v4 HB4.out)
  clear hb HAL HB3 E1
  by_cases hE : putE L n = 0
  · have hg := put_good hE
    obtain ⟨e1, n0, n1⟩ := putE_zero.1 hE
    obtain ⟨p1, p2⟩ := regE_zero.1 e1
    obtain ⟨q1, q2⟩ := lenR_pos p1
    rw [HL.out] at q1 q2 hg
    obtain ⟨k, hk⟩ : ∃ k : Nat, n % (len : Int) = (k : Int) := ⟨(n % (len : Int)).toNat, by have := Int.emod_nonneg n (show (len : Int) ≠ 0 by omega); omega⟩
    have hkl : k < len := by have := Int.emod_lt_of_pos n (show (0 : Int) < (len : Int) by omega); omega
    obtain ⟨x, hx⟩ : ∃ x, L[k]? = some x := ⟨_, List.getElem?_eq_getElem (by rw [HL.out]; exact hkl)⟩
    have hP := put_is (l := L) (n := n) (k := k) (by rw [HL.out]; exact hk) hx
    rw [HL.out] at hP
    obtain ⟨y, hy⟩ : ∃ y, max x (noughtsR n len) = y := ⟨_, rfl⟩
    rw [hy] at hP
    obtain ⟨R, hR⟩ : ∃ R, putR L n = R := ⟨_, rfl⟩
    have hpl : putL L n = R := by unfold putL; rw [if_pos hE, hR]
    rw [hR] at hP hg
    have hRk : R[k]? = some y := by rw [hP, List.getElem?_set_self (by rw [HL.out]; exact hkl)]
    have hRj : ∀ j, j ≠ k → R[j]? = L[j]? := fun j hj => by rw [hP, List.getElem?_set_ne (fun h => hj h.symm)]
    -- again
    have hE2 : putE R n = 0 := putE_zero.2 ⟨hg.1, n0, n1⟩
    have hP2 : putL R n = R := by
      have h := put_is (l := R) (n := n) (k := k) (by rw [hg.2]; exact hk) hRk
      rw [hg.2, show max y (noughtsR n len) = y from by omega] at h
      unfold putL
      rw [if_pos hE2, h]
      exact List.ext_getElem? fun j => by
        by_cases hj : j = k
        · subst hj
          rw [List.getElem?_set_self (by rw [hg.2]; exact hkl), hRk]
        · rw [List.getElem?_set_ne (fun h => hj h.symm)]
    -- with more noughts
    obtain ⟨h, hh⟩ : ∃ h, n / 2 = h := ⟨_, rfl⟩
    have h0 : 0 ≤ h := by omega
    have hn2 : h ≤ n := by omega
    obtain ⟨q, hq⟩ : ∃ q, h / (len : Int) = q := ⟨_, rfl⟩
    have hq0 : 0 ≤ q := by rw [← hq]; exact Int.ediv_nonneg h0 (by omega)
    have hqm : q * (len : Int) ≤ h := by rw [← hq]; exact Int.ediv_mul_le _ (by omega)
    have hq2 : q ≤ h := by rw [← hq]; exact Int.ediv_le_self _ h0
    have hqm0 : 0 ≤ q * (len : Int) := Int.mul_nonneg hq0 (by omega)
    obtain ⟨p, hp⟩ : ∃ p, q * (len : Int) = p := ⟨_, rfl⟩
    rw [hp] at hqm hqm0
    have hpk1 : p + (k : Int) < 72057594037927936 := by omega
    have hmod : (p + (k : Int)) % (len : Int) = (k : Int) := by
      rw [← hp, Int.add_comm, Int.add_mul_emod_self_right, Int.emod_eq_of_lt (by omega) (by omega)]
    have hdiv : (p + (k : Int)) / (len : Int) = q := by
      rw [← hp, Int.add_comm, Int.add_mul_ediv_right _ _ (by omega), Int.ediv_eq_zero_of_lt (by omega) (by omega), Int.zero_add]
    have hE3 : putE L (p + (k : Int)) = 0 := putE_zero.2 ⟨e1, by omega, hpk1⟩
    obtain ⟨Z, hZ⟩ : ∃ Z, putL L (p + (k : Int)) = Z := ⟨_, rfl⟩
    obtain ⟨z, hz⟩ : ∃ z, max x (noughtsR (p + (k : Int)) len) = z := ⟨_, rfl⟩
    have hZk : Z[k]? = some z ∧ Z.length = len := by
      have h := put_is (l := L) (n := p + (k : Int)) (k := k) (by rw [HL.out]; exact hmod) hx
      rw [HL.out, hz] at h
      rw [← hZ]
      unfold putL
      rw [if_pos hE3, h]
      exact ⟨List.getElem?_set_self (by rw [HL.out]; exact hkl), by rw [List.length_set, HL.out]⟩
    have hzy : y ≤ z := by
      rw [← hy, ← hz]
      have := noughts_mono (m := p + (k : Int)) (n := n) (of := (len : Int)) (by rw [hdiv, ← hq, ← hh]; exact Int.ediv_le_ediv (by omega) (by omega))
      omega
    have hF : fitB L R = true ∧ pairE L R = 0 := by
      have hpe := pair_ok e1 hg.1 (by rw [HL.out, hg.2])
      refine ⟨?_, hpe⟩
      unfold fitB
      rw [if_pos hpe, fitR_iff (by rw [HL.out, hg.2])]
      intro j u v hu hv
      by_cases hj : j = k
      · subst hj
        rw [hx, Option.some.injEq] at hu
        rw [hRk, Option.some.injEq] at hv
        omega
      · rw [hRj j hj, hu, Option.some.injEq] at hv
        omega
    have t1 : Int.tdiv n 2 = h := by rw [Int.tdiv_eq_ediv_of_nonneg n0]; exact hh
    have t2 : Int.tdiv h (len : Int) = q := by rw [Int.tdiv_eq_ediv_of_nonneg h0]; exact hq
    have t3 : Int.tmod n (len : Int) = (k : Int) := by rw [Int.tmod_eq_emod_of_nonneg n0]; exact hk
    have hln1 : ¬ ((len : Int) = 0) := by omega
    have hln2 : ¬ ((len : Int) = -1) := by omega
    have HPP : Hid (q * (len : Int) = p) := Lib.hid hp
    rw [hE, hpl] at D3
    have HG := Lib.hid hg.2
    have HRK := Lib.hid hRk
    have HRJ := Lib.hid hRj
    have HXK := Lib.hid hx
    have HZK := Lib.hid hZk
    have HZY := Lib.hid hzy
    have DF := Lib.hid (fun (W : World) (r : Option Addr) (c : Nat) (hb : Below w.heap.size w W) (hT : Tab W r len c 1 (R.map iC)) => regsFit_any a r len cap len c L R W (HT.out.below hb) hT)
    rw [hF.1, hF.2] at DF
    have DP := Lib.hid (fun (W : World) (r : Option Addr) (c : Nat) (hT : Tab W r len c 1 (R.map iC)) => regsPut_any r len c R n W hT)
    rw [hE2, hP2] at DP
    have DZ := Lib.hid (fun (W : World) (hb : Below w.heap.size w W) => regsPut_any a len cap L (p + (k : Int)) W (HT.out.below hb))
    rw [hE3, hZ] at DZ
    clear hE hg e1 p1 p2 hx hP hy hR hpl hRk hRj hE2 hP2 hh hq hqm hp hmod hdiv hE3 hZ hz hZk hzy hF hk HA
    go_wp2_with fail
    refine D3.out.mono ?_
    rintro e v5 ⟨vr, rfl, hO, hb⟩
    obtain ⟨aR, cR, rfl, hTR⟩ := own_ints hO HG.out
    have HTR := Lib.hid hTR
    have HB5 := Lib.hid (below_on HB4.out hb)
    clear hO hTR hb D3 HB4
    go_wp2_with fail
    refine (DF.out _ _ _ HB5.out HTR.out).mono ?_
    rintro e v6 ⟨rfl, hb⟩
    replace HTR := Lib.hid (HTR.out.below hb)
    have HB6 := Lib.hid (below_on HB5.out hb)
    clear hb HB5 DF
    go_wp2_with fail
    go_loopg [13, 70] len (fun g ch i wr => ∃ (j : Nat) (c : Int), j + g = len ∧ i = .int .i64 j ∧ ch = .int .i64 c ∧ 0 ≤ c ∧ c ≤ 1 ∧ (j ≤ k → c = 0) ∧ Hid (Below v6.heap.size v6 wr))
    case atStart => exact ⟨0, 0, by omega, rfl, rfl, by omega, by omega, fun _ => rfl, Lib.hid (Below.refl _ _)⟩
    case round =>
      obtain ⟨j, c, hj0, rfl, rfl, c0, c1, hcj, HW⟩ := hrel
      have HJ := Lib.hid hj0
      have HCJ := Lib.hid hcj
      have hj : j ≤ len := by omega
      clear hj0 hcj
      have HBW := Lib.hid (below_on HB6.out HW.out)
      have HTW := Lib.hid (HTR.out.below HW.out)
      by_cases hlt : j < len
      · obtain ⟨u, hu⟩ : ∃ u, L[j]? = some u := ⟨_, List.getElem?_eq_getElem (by rw [HL.out]; exact hlt)⟩
        obtain ⟨v, hv⟩ : ∃ u, R[j]? = some u := ⟨_, List.getElem?_eq_getElem (by rw [HG.out]; exact hlt)⟩
        obtain ⟨b1, o1, ha1, hbs1, d0⟩ := HT.out.one HBW.out (map_get hu)
        obtain ⟨b2, o2, ha2, hbs2, d1⟩ := HTW.out.one (Below.refl _ _) (map_get hv)
        have hjk : j ≠ k → u = v := fun h => by
          have := HRJ.out j h
          rw [hu, hv, Option.some.injEq] at this
          exact this.symm
        have HJK := Lib.hid hjk
        have HAA := Lib.hid (And.intro ha1 ha2)
        subst ha1 ha2
        clear hu hv hjk
        by_cases huv : v = u
        · subst huv
          have tt : (v != v) = false := by simp
          go_wp2_with fail
          go_quiet (fail)
          go_wp2_with fail
          go_roundg (len - (j + 1))
          case measure => have := HJ.out; omega
          case rel => exact ⟨j + 1, c, by omega, by go_num, rfl, c0, c1, fun h => HCJ.out (by omega), Lib.hid (below_drewN HW.out _)⟩
        · have tt : (v != u) = true := by simpa using huv
          have hjj : j = k := by
            rcases Decidable.em (j = k) with h | h
            · exact h
            · exact absurd (HJK.out h).symm huv
          have hc0 : c = 0 := HCJ.out (by omega)
          subst hc0
          have HJJ := Lib.hid hjj
          clear hjj huv c0 c1
          go_wp2_with fail
          go_quiet (fail)
          go_wp2_with fail
          go_roundg (len - (j + 1))
          case measure => have := HJ.out; omega
          case rel => exact ⟨j + 1, 1, by omega, by go_num, by go_num, by omega, by omega, fun h => by have := HJJ.out; omega, Lib.hid (below_drewN HW.out _)⟩
      · obtain rfl : j = len := by omega
        have hc1' : decide (c ≤ 1) = true := decide_eq_true c1
        have DPW := Lib.hid (DP.out wr aR cR HTW.out)
        obtain ⟨wo, hwo⟩ : ∃ wo, wo = wr := ⟨_, rfl⟩
        subst hwo
        clear DP HCJ HRJ
        go_wp2_with fail
        refine DPW.out.mono ?_
        rintro e v7 ⟨vr, rfl, hO, hb⟩
        obtain ⟨aS, cS, rfl, hTS⟩ := own_ints hO HG.out
        have HTS := Lib.hid hTS
        have HTR2 := Lib.hid (HTW.out.below hb)
        have HB7 := Lib.hid (below_on HBW.out hb)
        clear hO hTS hb DPW
        go_upto_region 21 with fail
        obtain ⟨wb, hwb⟩ : ∃ wb, wb = v7 := ⟨_, rfl⟩
        subst hwb
        have HWR : Hid (IntKind.i64.wrap (IntKind.i64.wrap (q * (j : Int)) + (k : Int)) = p + (k : Int)) := Lib.hid (by
          rw [HPP.out, IntKind.wrap_i64, IntKind.wrap_i64]; omega)
        have HQ1 : Hid (IntKind.i64.wrap q = q) := Lib.hid (by rw [IntKind.wrap_i64]; omega)
        have HH1 : Hid (IntKind.i64.wrap h = h) := Lib.hid (by rw [IntKind.wrap_i64]; omega)
        go_cut [17, 18] (fun v e wx => ∃ (cZ : Nat) (aZ : Option Addr), v = .slice aZ j cZ ∧ e = .int .i64 0 ∧ Hid (Tab wx aZ j cZ 1 (Z.map iC)) ∧ Hid (Below wb.heap.size wb wx))
        case first =>
          go_wp2_with fail
          go_region_with (first | (go_at_call 13; (try simp only [HQ1.out, HH1.out, HWR.out]); refine Calls.mono (DZ.out _ ?_) ?_; (first | exact HB7.out | exact HB7.out.drew); rintro e w5 ⟨q5, rfl, hO5, hb5⟩; obtain ⟨a5, c5, rfl, hT5⟩ := own_ints hO5 HZK.out.2))
          all_goals
            go_wp2_with fail
            go_meet
            case rel =>
              first
              | exact ⟨_, _, rfl, rfl, Lib.hid hT5, Lib.hid ((Below.refl _ _).drew.trans hb5)⟩
              | exact ⟨_, _, rfl, rfl, Lib.hid hT5, Lib.hid hb5⟩
        case rest =>
        obtain ⟨cZ, aZ, rfl, rfl, HTZ, HBZ⟩ := hcut
        obtain ⟨wq, hwq⟩ : ∃ wq, wq = wc := ⟨_, rfl⟩
        subst hwq
        have HTR3 := Lib.hid (HTR2.out.below HBZ.out)
        have HTS3 := Lib.hid (HTS.out.below HBZ.out)
        have HB8 := Lib.hid (below_on HB7.out HBZ.out)
        obtain ⟨b1, o1, ha1, hbs1, d0⟩ := HTZ.out.one (Below.refl _ _) (map_get HZK.out.1)
        obtain ⟨b2, o2, ha2, hbs2, d1⟩ := HTR3.out.one (Below.refl _ _) (map_get HRK.out)
        have hzy := HZY.out
        have HQ := Lib.hid (fun n => equalq_ints aS aR j cS j cR R R (wq.drewN n) (HTS3.out.below (below_drewN (Below.refl _ _) n)) (HTR3.out.below (below_drewN (Below.refl _ _) n)) true (by simp))
        subst ha1 ha2
        clear HWR HQ1 HH1 DZ HPP HBZ HB7 HTZ HTR3 HTS3 HTR2 HTS HZK HRK
        go_wp2_with fail
        go_quiet (first | (go_at_call 21; exact Calls.quiet_of (HQ.out _)))
        go_wp2_with fail
        go_ret
        exact ⟨rfl, below_drewN HB8.out _⟩
  · have hpl : putL L n = [] := by unfold putL; rw [if_neg hE]
    rw [hpl] at D3
    have t : (putE L n != 0) = true := by simpa using hE
    generalize putE L n = E at *
    clear hE hpl
    go_wp2_with fail
    refine D3.out.mono ?_
    rintro e v5 ⟨vr, rfl, hO, hb⟩
    obtain ⟨aR, cR, rfl, hTR⟩ := own_ints (K := 0) hO rfl
    have HB5 := Lib.hid (below_on HB4.out hb)
    clear hO hTR hb
    go_wp2
    go_ret
    exact ⟨rfl, HB5.out⟩

set_option maxRecDepth 100000 in
theorem lifted (os : Os) (started : os.Started) (H : Type) (enc : TypeId × Value → H) :
    ReturnsInHanded {} Try.checked os 12 .any (Rows.regsGrowsSpec.pre6 enc Try.prog Try.f12 Rows.regsGrowsRow.domain false) (Rows.regsGrowsSpec.post enc Try.prog Try.f12 false true false false) := by
  refine returnsInHanded_of_change_sized (C := Try.checked) own started (by kernel_rfl) Try.func12
    (ChangeSpec.witness6 (enc := enc) (C := Try.checked) false ⟨#[], #[.slice none 0 0, .int .i64 0], []⟩ 8 (by kernel_rfl) (by kernel_rfl) (by kernel_rfl) (by kernel_rfl)) ?_
  intro W base args ds gs before hval0 hW hcnd hsz0 _
  have hval : ∀ (j : Nat) t v, Try.f12.params[j]? = some t → args[j]? = some v → Value.okWide Try.prog W .any base t v := hval0
  have hW' := hW
  obtain ⟨p, q, hA0, hV, rfl, hfz, hnd⟩ := hW
  have hA : DataW.TrodAll enc Try.prog W 0 (fun _ => true) true Try.f12.params.toList args.toList ds p := hA0
  have hsz : (DataW.weightsEach Try.prog (Try.f12.params.toList ++ Rows.regsGrowsSpec.plain.varTypes Try.prog) (ds ++ gs)).all (· ≤ reachBytes) = true := hsz0
  rw [Try.params12] at hA hval hsz
  obtain ⟨v0, vs0, d0, ds0, p0, q0, hargs, rfl, rfl, h0, r0⟩ := trodAll_cons hA
  obtain ⟨v1, vs1, d1, ds1, p1, q1, rfl, rfl, rfl, h1, r1⟩ := trodAll_cons r0
  obtain ⟨rfl, rfl, rfl⟩ := trodAll_nil r1
  obtain rfl : args = #[v0, v1] := by cases args; simp_all
  obtain ⟨rfl, rfl⟩ := trodVars_none hV
  have k0 := h0
  have L0 := light_of hsz (j := 0) (t := 22) (d := d0) rfl rfl
  have lt0 : ∀ x ∈ p0, x.block < W.heap.size := by obtain ⟨m, hm⟩ := k0; exact DataW.trod_lt m _ _ _ hm
  obtain ⟨a0, len0, cap0, rfl⟩ := okWide_slice Try.underlying22 (hval 0 22 v0 rfl rfl)
  obtain ⟨n0, f0⟩ := trod_slice_of Try.underlying22 h0
  have F0 := And.intro f0 L0
  obtain ⟨x0, e0, t0, b0, o0⟩ := el_slice (w := W) (k := 1) iC wfI (by decide) Try.underlying22 (by kernel_rfl) (el_int Try.underlying3) (B := 8) (by kernel_rfl) _ _ _ F0.1 F0.2
  simp only [slC, List.cons.injEq, Value.slice.injEq, and_true] at e0
  obtain ⟨rfl, rfl, rfl⟩ := e0
  have k1 := h1
  have L1 := light_of hsz (j := 1) (t := 3) (d := d1) rfl rfl
  have lt1 : ∀ x ∈ p1, x.block < W.heap.size := by obtain ⟨m, hm⟩ := k1; exact DataW.trod_lt m _ _ _ hm
  obtain ⟨x1, rfl, rfl, rfl, w1⟩ := open_int Try.underlying3 (hval 1 3 v1 rfl rfl) h1
  clear hA0 hval0
  refine (walk x0 x1 W t0 b0 o0 w1).mono fun e W' ⟨he, hg⟩ => ?_
  subst he
  exact ⟨_, rfl, _, _, _, [], _, [], hW', trodAll_mk1 (shut_bool Try.underlying4 _), (trodAll_cons_mk (Below.trod laidOut (by kernel_rfl) (of_decide_eq_true (by kernel_rfl)) k0 hg lt0) (trodAll_cons_mk (Below.trod laidOut (by kernel_rfl) (of_decide_eq_true (by kernel_rfl)) k1 hg lt1) trodAll_mk0)), rfl, hg.frame _, fun h => by cases h⟩

theorem over : Rows.regsGrowsRow.holds Try.pinned (OpenSpec.ofChange Rows.regsGrowsSpec) :=
  OpenClaim.holds_of_wide 12 Try.f12 rfl rfl rfl rfl rfl rfl rfl ⟨rfl, rfl, rfl, rfl, rfl⟩ rfl rfl rfl rfl rfl (by kernel_rfl) Try.func12 (by kernel_rfl)
    (of_decide_eq_true (by kernel_rfl)) (by unfold Func.isWrapper; first | (rw [if_pos (by decide +kernel)]; kernel_rfl) | (rw [if_neg (by decide +kernel)]; exact ⟨rfl, rfl⟩))
    (fun os started H enc _ => lifted os started H enc)

/-- ████ THE STATEMENT ████ -/
theorem proved : Rows.RegsGrowsSaid :=
  over
#print axioms proved
end Go.Proofs.Ytffgoekdjcempaa.regsGrows
