/-
  'Rows.RegsSaySaid' is proved: whatever is handed in, regs.Check, Put, Join and Fit answer as the document's own registers do. No condition.
-/
import Derived.Test.YtffgoekdjcempaaRows
import Derived.Test.YtffgoekdjcempaaShapes
import Derived.Test.YtffgoekdjcempaaRegsPut
import Derived.Test.YtffgoekdjcempaaRegsJoin
import Derived.Test.YtffgoekdjcempaaRegsRow
import Derived.Test.YtffgoekdjcempaaRegsBig
import Derived.Test.YtffgoekdjcempaaRefRegs
import Derived.Test.YtffgoekdjcempaaRefDraw
import Derived.Test.YtffgoekdjcempaaEqualInts
import Derived.Test.YtffgoekdjcempaaCloneInts
import Derived.Test.YtffgoekdjcempaaLit
import Derived.Test.YtffgoekdjcempaaStepRows
import Derived.Deep.DeepCutAuto
import Derived.Deep.LoopGhost
import Derived.BigQuiet
import Derived.Deep.QuietTactic
import Derived.RegionTactic
import Derived.BigRegion
import Derived.Deep.RegionLaw
import Derived.WalkKit
import Derived.ProofKit
import Derived.OpenShut
import Derived.ShutString
import Derived.ChangeOld
import Derived.Below
namespace Go.Proofs.Ytffgoekdjcempaa.regsSay
open Go.ChangeShapes Go.WideShapes Go.ChangeAt Go.RowKit
open Go.ChangeMaps (open_string shut_string)
set_option linter.unusedVariables false

theorem own : ownKnob Try.prog.godebug = none := by kernel_rfl
theorem laidOut : laidOutB Try.prog = true := by kernel_rfl

--BEATS
open Regs
theorem tab_none (w : World) : Tab w none 0 0 1 (([] : List Int).map iC) := ⟨rfl, Nat.le_refl _, Nat.zero_le _, fun _ => rfl, fun h => absurd h (by simp)⟩
theorem regE_nil : regE [] = 7 := by decide
theorem put_is {l : List Int} {n : Int} {k : Nat} {x : Int} (hk : n % (l.length : Int) = (k : Int)) (hx : l[k]? = some x) : putR l n = l.set k (max x (noughtsR n l.length)) := by
  unfold putR
  rw [hk]
  simp only [Int.toNat_natCast]
  rw [List.getD_eq_getElem?_getD, hx]; rfl
theorem joinR_snoc {a b : List Int} {k : Nat} {x y : Int} (hl : a.length = b.length) (hx : a[k]? = some x) (hy : b[k]? = some y) : (joinR a b).take (k + 1) = (joinR a b).take k ++ [max x y] := by
  rw [List.take_add_one, joinR_get hx hy, Option.toList_some]
theorem fitR_snoc {a b : List Int} {k : Nat} {x y : Int} (hl : a.length = b.length) (hx : a[k]? = some x) (hy : b[k]? = some y) : fitR (a.take (k + 1)) (b.take (k + 1)) = (fitR (a.take k) (b.take k) && decide (x ≤ y)) := by
  refine both ?_
  have hl' : ∀ n, (a.take n).length = (b.take n).length := fun n => by rw [List.length_take, List.length_take, hl]
  rw [fitR_iff (hl' _), fitR_iff (hl' _), decide_eq_true_iff]
  have hka := (List.getElem?_eq_some_iff.1 hx).1
  constructor
  · intro h
    refine ⟨fun j u v hu hv => ?_, h k x y (by rw [List.getElem?_take, if_pos (by omega), hx]) (by rw [List.getElem?_take, if_pos (by omega), hy])⟩
    rw [List.getElem?_take] at hu hv
    split at hu
    · rename_i hj
      rw [if_pos hj] at hv
      exact h j u v (by rw [List.getElem?_take, if_pos (by omega), hu]) (by rw [List.getElem?_take, if_pos (by omega), hv])
    · cases hu
  · rintro ⟨h, g⟩ j u v hu hv
    rw [List.getElem?_take] at hu hv
    split at hu
    · rename_i hj
      rw [if_pos hj] at hv
      by_cases hjk : j = k
      · subst hjk
        rw [hx, Option.some.injEq] at hu
        rw [hy, Option.some.injEq] at hv
        omega
      · exact h j u v (by rw [List.getElem?_take, if_pos (by omega), hu]) (by rw [List.getElem?_take, if_pos (by omega), hv])
    · cases hu
theorem info_intS : (Try.prog.info? 3).map (fun i => (i.zero, i.size, i.bytes)) = some (some (.int .i64 0), 1, 8) := by kernel_rfl

set_option maxRecDepth 100000 in
set_option maxHeartbeats 12000000 in
theorem walk (x0 : Sl Int) (x1 : Sl Int) (x2 : Int) (w : World) (t0 : Tab w x0.a x0.len x0.cap 1 (x0.l.map iC)) (b0 : x0.len * 8 ≤ 140737488351232) (o0 : ∀ z ∈ x0.l, wfI z) (t1 : Tab w x1.a x1.len x1.cap 1 (x1.l.map iC)) (b1 : x1.len * 8 ≤ 140737488351232) (o1 : ∀ z ∈ x1.l, wfI z) (w2 : (Lit.int .i64 x2).wf = true) :
    Calls Try.prog 3 #[.slice x0.a x0.len x0.cap, .slice x1.a x1.len x1.cap, .int .i64 x2] w fun e w' => e = .returned (.bool true) ∧ Below w.heap.size w w' := by
  obtain ⟨a, la, ca, A⟩ := x0
  obtain ⟨b, lb, cb, B⟩ := x1
  simp only at t0 t1 o0 o1 b0 b1
  generalize x2 = n at *
  have hm : ca ≤ 9223372036854775807 := by have h := t0.hmax; unfold maxLen at h; simpa using h
  have hle : la ≤ ca := t0.hle
  have hm1 : cb ≤ 9223372036854775807 := by have h := t1.hmax; unfold maxLen at h; simpa using h
  have hle1 : lb ≤ cb := t1.hle
  have hA : A.length = la := by have h := t0.hlen; rw [List.length_map] at h; exact h
  have hB : B.length = lb := by have h := t1.hlen; rw [List.length_map] at h; exact h
  have C1 := Lib.hid (regsPut_any a la ca A n w t0)
  have C2 := Lib.hid (fun (W : World) (hb : Below w.heap.size w W) => regsJoin_any a b la ca lb cb A B W (t0.below hb) (t1.below hb))
  have C3 := Lib.hid (fun (W : World) (hb : Below w.heap.size w W) => regsFit_any a b la ca lb cb A B W (t0.below hb) (t1.below hb))
  have C5 := Lib.hid (fun (W : World) (hb : Below w.heap.size w W) => regsCheck_any a la ca A W (t0.below hb))
  have C6 : Hid (∀ W : World, Calls Try.prog 17 #[.slice none 0 0] W fun e w' => e = .returned (.int .i64 7) ∧ Below W.heap.size W w') := Lib.hid (fun W => by
    have h := regsCheck_any none 0 0 [] W (tab_none W)
    rw [regE_nil] at h
    exact h)
  have TA := Lib.hid t0
  have TB := Lib.hid t1
  have LA := Lib.hid hA
  have LB := Lib.hid hB
  clear t0 t1 o0 o1 b0 b1 hA hB
  obtain ⟨F, hF⟩ : ∃ F, putE A n = F := ⟨_, rfl⟩
  obtain ⟨P, hP⟩ : ∃ P, pairE A B = P := ⟨_, rfl⟩
  obtain ⟨X, hX⟩ : ∃ X, putL A n = X := ⟨_, rfl⟩
  obtain ⟨Y, hY⟩ : ∃ Y, joinL A B = Y := ⟨_, rfl⟩
  obtain ⟨Z, hZ⟩ : ∃ Z, fitB A B = Z := ⟨_, rfl⟩
  obtain ⟨E, hE⟩ : ∃ E, regE A = E := ⟨_, rfl⟩
  rw [hF, hX] at C1
  rw [hP, hY] at C2
  rw [hP, hZ] at C3
  rw [hE] at C5
  have HF := Lib.hid hF
  have HP := Lib.hid hP
  have HX := Lib.hid hX
  have HY := Lib.hid hY
  have HZ := Lib.hid hZ
  have HE := Lib.hid hE
  clear hF hP hX hY hZ hE
  go_enter Try.func3, Try.ntmps3
  go_wp2_with fail
  refine C1.out.mono ?_
  rintro e v1 ⟨q, rfl, hO, hb⟩
  obtain ⟨nX, hnX⟩ : ∃ m, X.length = m := ⟨_, rfl⟩
  obtain ⟨aX, cX, rfl, hT⟩ := own_ints hO hnX
  have SX := Lib.hid hT
  have HNX := Lib.hid hnX
  have HB1 := Lib.hid hb
  have D2 := Lib.hid (C2.out v1 hb)
  clear hO hT hb C1 C2 hnX
  go_wp2_with fail
  refine D2.out.mono ?_
  rintro e v2 ⟨q, rfl, hO, hb⟩
  obtain ⟨nY, hnY⟩ : ∃ m, Y.length = m := ⟨_, rfl⟩
  obtain ⟨aY, cY, rfl, hT⟩ := own_ints hO hnY
  have SY := Lib.hid hT
  have HNY := Lib.hid hnY
  replace SX := Lib.hid (SX.out.below hb)
  have HB2 := Lib.hid (below_on HB1.out hb)
  have D3 := Lib.hid (C3.out v2 HB2.out)
  clear hO hT hb D2 C3 HB1 hnY
  go_wp2_with fail
  refine D3.out.mono ?_
  rintro e v3 ⟨rfl, hb⟩
  replace SX := Lib.hid (SX.out.below hb)
  replace SY := Lib.hid (SY.out.below hb)
  have HB3 := Lib.hid (below_on HB2.out hb)
  have hba : Below v3.heap.size v3 (v3.alloc (.cells #[.slice a la ca] 22)) := (Below.refl _ _).alloc (Nat.le_refl _) _
  have D4 := refRegs_one v3.heap.size 1 a la ca A (v3.alloc (.cells #[.slice a la ca] 22)) (cell_blk (MapKept.heap_alloc v3 _).1 rfl) (TA.out.below (below_on HB3.out hba))
  rw [HE.out] at D4
  replace D4 := Lib.hid D4
  have HBA := Lib.hid hba
  clear hb D3 HB2 hba
  go_wp2_with fail
  refine D4.out.mono ?_
  rintro e v4 ⟨rfl, hb⟩
  replace SX := Lib.hid ((SX.out.below HBA.out).below hb)
  replace SY := Lib.hid ((SY.out.below HBA.out).below hb)
  have HB4 := Lib.hid (below_on (below_on HB3.out HBA.out) hb)
  have D5 := Lib.hid (C5.out v4 HB4.out)
  clear hb D4 HB3 HBA C5
  have tE : (E != E) = false := by simp
  go_wp2_with fail
  refine D5.out.mono ?_
  rintro e v5 ⟨rfl, hb⟩
  replace SX := Lib.hid (SX.out.below hb)
  replace SY := Lib.hid (SY.out.below hb)
  have HB5 := Lib.hid (below_on HB4.out hb)
  clear hb D5 HB4
  go_wp2_with fail
  refine (C6.out v5).mono ?_
  rintro e v6 ⟨rfl, hb⟩
  replace SX := Lib.hid (SX.out.below hb)
  replace SY := Lib.hid (SY.out.below hb)
  have HB6 := Lib.hid (below_on HB5.out hb)
  clear hb HB5 C6 tE
  by_cases hE0 : E = 0
  · subst hE0
    have hCD : ∃ c : Bool, c = (decide (0 ≤ n) && decide (n < 72057594037927936)) := ⟨_, rfl⟩
    obtain ⟨c, hc⟩ := hCD
    have CD := Lib.hid (fun W => refDraw_any n W c hc)
    have HC := Lib.hid hc
    clear hc
    go_upto_region 9 with fail
    go_cut [79] (fun t wx => t = .bool (!c) ∧ wx = v6)
    case first =>
      go_wp2_with fail
      refine (CD.out _).mono ?_
      rintro e v7 ⟨rfl, hv⟩
      rw [← hv]
      clear hv
      cases c
      · go_wp2_with fail
        go_meet
        case rel => exact ⟨rfl, rfl⟩
      · go_wp2_with fail
        go_meet
        case rel => exact ⟨rfl, rfl⟩
    case rest =>
    obtain ⟨rfl, hwc⟩ := hcut
    have hwc := hwc.symm
    subst hwc
    go_upto_if 79 with fail
    go_cut [] (fun wx => Hid (Tab wx aY nY cY 1 (Y.map iC)) ∧ Hid (Below w.heap.size w wx))
    case first =>
      cases c
      · have hn : n < 0 ∨ 72057594037927936 ≤ n := by
          have := HC.out
          rcases Decidable.em (0 ≤ n) with h1 | h1
          · rcases Decidable.em (n < 72057594037927936) with h2 | h2
            · rw [decide_eq_true h1, decide_eq_true h2] at this; cases this
            · omega
          · omega
        obtain rfl : F = 1 := by
          rw [← HF.out]; unfold putE; rw [if_neg (by rw [HE.out]; decide), if_pos hn]
        obtain rfl : nX = 0 := by
          rw [← HNX.out, ← HX.out]; unfold putL; rw [if_neg (by rw [HF.out]; decide)]; rfl
        clear hn
        go_wp2_with fail
        go_meet
        case rel => exact ⟨SY, HB6⟩
      · have hn : 0 ≤ n ∧ n < 72057594037927936 := by
          have := HC.out.symm
          rw [Bool.and_eq_true, decide_eq_true_iff, decide_eq_true_iff] at this
          exact this
        have n0 := hn.1
        have n1 := hn.2
        have hF0 : putE A n = 0 := putE_zero.2 ⟨HE.out, n0, n1⟩
        obtain rfl : F = 0 := by rw [← HF.out]; exact hF0
        obtain ⟨p1, p2⟩ := regE_zero.1 HE.out
        obtain ⟨q1, q2⟩ := lenR_pos p1
        rw [LA.out] at q1 q2
        obtain ⟨k, hk⟩ : ∃ k : Nat, n % (la : Int) = (k : Int) := ⟨(n % (la : Int)).toNat, by have := Int.emod_nonneg n (show (la : Int) ≠ 0 by omega); omega⟩
        have hkl : k < la := by have := Int.emod_lt_of_pos n (show (0 : Int) < (la : Int) by omega); omega
        obtain ⟨x, hx⟩ : ∃ x, A[k]? = some x := ⟨_, List.getElem?_eq_getElem (by rw [LA.out]; exact hkl)⟩
        have hPi := put_is (l := A) (n := n) (k := k) (by rw [LA.out]; exact hk) hx
        rw [LA.out] at hPi
        have hXe : X = A.set k (max x (noughtsR n la)) := by rw [← HX.out]; unfold putL; rw [if_pos hF0, hPi]
        obtain rfl : nX = la := by rw [← HNX.out, hXe, List.length_set, LA.out]
        have t3 : Int.tmod n (nX : Int) = (k : Int) := by rw [Int.tmod_eq_emod_of_nonneg n0]; exact hk
        have hln1 : ¬ ((nX : Int) = 0) := by omega
        have hln2 : ¬ ((nX : Int) = -1) := by omega
        have CN := Lib.hid (fun W => noughts_any n (nX : Int) W n0 (by omega) (by omega))
        generalize noughtsR n (nX : Int) = z at *
        have HXE := Lib.hid hXe
        have HXK := Lib.hid hx
        have CK := Lib.hid (clone_ints a nX ca A v6 (TA.out.below HB6.out) (by omega))
        clear hn hF0 p1 p2 hk hx hPi hXe
        go_wp2_with fail
        refine CK.out.mono ?_
        rintro e v7 ⟨q, rfl, hO, hb⟩
        obtain ⟨g, cg, rfl⟩ := own_block hO (by rw [LA.out]; omega)
        rw [LA.out] at hO ⊢
        have HB7 := Lib.hid (below_on HB6.out hb)
        have HO := Lib.hid hO
        have HBv := Lib.hid hb
        obtain ⟨c0, c1, g1, g2⟩ := hO.at1 (map_get HXK.out)
        clear hO CK hb
        by_cases hxz : x < z
        · have hset : X = A.set k z := by rw [HXE.out, show max x z = z by omega]
          have HQ : Hid (∀ m, Calls Try.prog 21 #[.slice aX nX cX, .slice (some ⟨g, 0, none⟩) nX cg] ((v7.drewN m).setCell ⟨g, k, none⟩ (.int .i64 z)) fun e w' => e = .returned (.bool true) ∧ Below ((v7.drewN m).setCell ⟨g, k, none⟩ (.int .i64 z)).heap.size ((v7.drewN m).setCell ⟨g, k, none⟩ (.int .i64 z)) w') := Lib.hid (fun m => by
            have hs := (HO.out.below (below_drewN (Below.refl _ _) m)).set1 (map_get HXK.out) (.int .i64 z)
            rw [← show iC z = [Value.int .i64 z] from rfl, ← List.map_set, ← hset] at hs
            exact equal_ints aX (some ⟨g, 0, none⟩) nX cX nX cg X X _ (SX.out.below ((below_drewN HBv.out m).setCell (p := ⟨g, k, none⟩) g1 _)) hs.tab_of true (by simp))
          have HBS := Lib.hid (fun m => (below_drewN HBv.out m).setCell (p := ⟨g, k, none⟩) g1 (.int .i64 z))
          clear hset
          go_wp2_with fail
          go_quiet (first | (go_at_call 20; exact Calls.quiet_of_same (CN.out _)))
          go_wp2_with fail
          refine (CN.out _).mono ?_
          rintro e v8 ⟨rfl, hv8⟩
          rw [hv8]
          clear hv8
          go_wp2_with fail
          refine (HQ.out _).mono ?_
          rintro e v9 ⟨rfl, hb⟩
          have hbb := below_on (HBS.out _) hb
          have HY9 := Lib.hid (SY.out.below hbb)
          have HB9 := Lib.hid (below_on HB6.out hbb)
          clear hb hbb
          go_wp2_with fail
          go_meet
          case rel => exact ⟨HY9, HB9⟩
        · have hset : X = A := by
            rw [HXE.out, show max x z = x by omega]
            exact List.ext_getElem? fun j => by
              by_cases hj : j = k
              · subst hj
                rw [List.getElem?_set_self (by rw [LA.out]; exact hkl), HXK.out]
              · rw [List.getElem?_set_ne (fun h => hj h.symm)]
          have HQ : Hid (∀ m, Calls Try.prog 21 #[.slice aX nX cX, .slice (some ⟨g, 0, none⟩) nX cg] (v7.drewN m) fun e w' => e = .returned (.bool true) ∧ Below (v7.drewN m).heap.size (v7.drewN m) w') := Lib.hid (fun m => by
            have hs := HO.out.below (below_drewN (Below.refl _ _) m)
            rw [← hset] at hs
            exact equal_ints aX (some ⟨g, 0, none⟩) nX cX nX cg X X _ (SX.out.below (below_drewN HBv.out m)) hs.tab_of true (by simp))
          have HBS := Lib.hid (fun m => below_drewN HBv.out m)
          have td : decide (x < z) = false := decide_eq_false hxz
          clear hset
          go_wp2_with fail
          go_quiet (first | (go_at_call 20; exact Calls.quiet_of_same (CN.out _)))
          go_wp2_with fail
          refine (HQ.out _).mono ?_
          rintro e v9 ⟨rfl, hb⟩
          have hbb := below_on (HBS.out _) hb
          have HY9 := Lib.hid (SY.out.below hbb)
          have HB9 := Lib.hid (below_on HB6.out hbb)
          clear hb hbb
          go_wp2_with fail
          go_meet
          case rel => exact ⟨HY9, HB9⟩
    case rest =>
    obtain ⟨TY, HBc⟩ := hcut
    obtain ⟨wo, hwo⟩ : ∃ wo, wo = wc := ⟨_, rfl⟩
    subst hwo
    have hba : Below wo.heap.size wo (wo.alloc (.cells #[.slice b lb cb] 22)) := (Below.refl _ _).alloc (Nat.le_refl _) _
    have D4 := refRegs_one wo.heap.size 1 b lb cb B (wo.alloc (.cells #[.slice b lb cb] 22)) (cell_blk (MapKept.heap_alloc wo _).1 rfl) (TB.out.below (below_on HBc.out hba))
    obtain ⟨G, hG⟩ : ∃ G, regE B = G := ⟨_, rfl⟩
    rw [hG] at D4
    have HG := Lib.hid hG
    replace D4 := Lib.hid D4
    have HBA := Lib.hid hba
    clear hG hba SX SY HB6 CD HC
    go_wp2_with fail
    refine D4.out.mono ?_
    rintro e v9 ⟨rfl, hb⟩
    replace TY := Lib.hid ((TY.out.below HBA.out).below hb)
    have HB9 := Lib.hid (below_on (below_on HBc.out HBA.out) hb)
    clear hb D4 HBA HBc
    by_cases hG0 : G ≠ 0
    · obtain rfl : P = G := by rw [← HP.out]; unfold pairE; rw [if_neg (by rw [HE.out]; decide), if_pos (by rw [HG.out]; exact hG0), HG.out]
      have hP0 : pairE A B ≠ 0 := by rw [HP.out]; exact hG0
      obtain rfl : nY = 0 := by rw [← HNY.out, ← HY.out]; unfold joinL; rw [if_neg hP0]; rfl
      obtain rfl : Z = false := by rw [← HZ.out]; unfold fitB; rw [if_neg hP0]
      have t0 : (P == 0) = false := by simpa using hG0
      have t1 : (P != 0) = true := by simpa using hG0
      have t2 : (P == P) = true := by simp
      clear hP0 hG0
      go_wp2_with fail
      go_ret
      exact ⟨rfl, HB9.out⟩
    · obtain rfl : G = 0 := by omega
      clear hG0
      by_cases hlb : la ≠ lb
      · obtain rfl : P = 3 := by rw [← HP.out]; unfold pairE; rw [if_neg (by rw [HE.out]; decide), if_neg (by rw [HG.out]; decide), if_pos (by rw [LA.out, LB.out]; exact hlb)]
        have hP0 : pairE A B ≠ 0 := by rw [HP.out]; decide
        obtain rfl : nY = 0 := by rw [← HNY.out, ← HY.out]; unfold joinL; rw [if_neg hP0]; rfl
        obtain rfl : Z = false := by rw [← HZ.out]; unfold fitB; rw [if_neg hP0]
        have t1 : ((la : Int) != (lb : Int)) = true := by simp; omega
        clear hP0 hlb
        go_wp2_with fail
        go_ret
        exact ⟨rfl, HB9.out⟩
      · obtain rfl : la = lb := by omega
        have hAB : A.length = B.length := by rw [LA.out, LB.out]
        have hP0 : pairE A B = 0 := pair_ok HE.out HG.out hAB
        obtain rfl : P = 0 := by rw [← HP.out]; exact hP0
        have hYJ : Y = joinR A B := by rw [← HY.out]; unfold joinL; rw [if_pos hP0]
        have hZf : Z = fitR A B := by rw [← HZ.out]; unfold fitB; rw [if_pos hP0]
        obtain rfl : nY = la := by rw [← HNY.out, hYJ, joinR_len hAB, LA.out]
        obtain ⟨p1, p2⟩ := regE_zero.1 HE.out
        obtain ⟨q1, q2⟩ := lenR_pos p1
        rw [LA.out] at q1 q2
        have t1 : ((nY : Int) != (nY : Int)) = false := by simp
        have HAB := Lib.hid hAB
        have HYJ := Lib.hid hYJ
        have HZF := Lib.hid hZf
        clear hP0 hlb hYJ hZf hAB p1 p2
        obtain ⟨base, hbase⟩ : ∃ s, v9.heap.size = s := ⟨_, rfl⟩
        have HBS := Lib.hid hbase
        clear hbase
        go_wp2_with fail
        go_loopg [16, 17, 150] nY (fun g v f i wr => ∃ k : Nat, k + g = nY ∧ i = .int .i64 k ∧ f = .bool (fitR (A.take k) (B.take k)) ∧ Hid (Own wr base 3 1 v ((Y.take k).map iC)) ∧ Hid (Below v9.heap.size v9 wr))
        case atStart => exact ⟨0, by omega, rfl, rfl, Lib.hid (Own.nil _ _ _ _), Lib.hid (Below.refl _ _)⟩
        case round =>
          obtain ⟨k, hk0, rfl, rfl, HO, HW⟩ := hrel
          have HJ := Lib.hid hk0
          have hk : k ≤ nY := by omega
          clear hk0
          have HBW := Lib.hid (below_on HB9.out HW.out)
          by_cases hlt : k < nY
          · obtain ⟨x, hx⟩ : ∃ u, A[k]? = some u := ⟨_, List.getElem?_eq_getElem (by rw [LA.out]; exact hlt)⟩
            obtain ⟨y, hy⟩ : ∃ u, B[k]? = some u := ⟨_, List.getElem?_eq_getElem (by rw [LB.out]; exact hlt)⟩
            have HN1 := Lib.hid (joinR_snoc HAB.out hx hy)
            rw [← HYJ.out] at HN1
            have HN2 := Lib.hid (fitR_snoc HAB.out hx hy)
            obtain ⟨b1, o1, ha1, hbs1, d0⟩ := TA.out.one HBW.out (map_get hx)
            obtain ⟨b2, o2, ha2, hbs2, d1⟩ := TB.out.one HBW.out (map_get hy)
            have HX1 := Lib.hid hx
            have HY1 := Lib.hid hy
            have HAA := Lib.hid (And.intro ha1 ha2)
            have HUL : Hid (((Y.take k).map iC).length = k) := Lib.hid (by rw [List.length_map, List.length_take, HNY.out]; omega)
            have HSZ : Hid (base ≤ wr.heap.size) := Lib.hid (by rw [← HBS.out]; exact HW.out.size)
            obtain ⟨m, hm9⟩ : ∃ m, max x y = m := ⟨_, rfl⟩
            have HM := Lib.hid hm9
            rw [hm9] at HN1
            subst ha1 ha2
            clear hx hy hm9
            obtain ⟨wo2, hwo2⟩ : ∃ wo2, wo2 = wr := ⟨_, rfl⟩
            subst hwo2
            go_upto_region 28 with fail
            go_cut [16] (fun v wx => Hid (Own wx base 3 1 v ((Y.take (k + 1)).map iC)) ∧ Hid (Below v9.heap.size v9 wx))
            case first =>
              go_wp2_with fail
              go_region_law (first
                | (refine step_append_rows _ rfl _ _ 22 rfl base 3 _ 1 8 Try.underlying22 info_intS rfl (by decide) _ ((Y.take k).map iC) (by simp [Act.eval, Act.put]) ((HO.out.alloc _).drew) ⟨wo2.heap.size, 0, none⟩ 1 1 [iC (max x y)] (by decide) rfl (by simp [Act.eval, Act.put]) (by simp [iC]) (one_row _ (iC (max x y)) 3 _ (by simp)) (by simp [iC, Value.oneCell']) (by rw [HUL.out]; omega) (by decide) (by have := HSZ.out; simp; omega) ?_; intro g6 c6 w6 hO6 hg6))
              all_goals
                rw [HM.out, ← List.map_singleton (f := iC) (a := m), ← List.map_append, ← HN1.out] at hO6
                have hu : Below v9.heap.size v9 w6 := ((HO.out.alloc (.cells #[.int .i64 (max x y)] 3)).drew).under ((HW.out.alloc HW.out.size _).drew) (by rw [HBS.out]; exact Nat.le_refl _) (by have := HW.out.size; simp; omega) hg6
                have hO7 := Lib.hid hO6
                have hu7 := Lib.hid hu
                clear hO6 hu hg6
                go_wp2_with fail
                go_meet
                case rel => exact ⟨Lib.hid (by have h := hO7.out; simp only [List.length_map, List.length_take] at h; exact h), hu7⟩
            case rest =>
            obtain ⟨HO2, HW2⟩ := hcut
            obtain ⟨wq, hwq⟩ : ∃ wq, wq = wc := ⟨_, rfl⟩
            subst hwq
            have HBW2 := Lib.hid (below_on HB9.out HW2.out)
            clear d0 d1
            obtain ⟨b1', o1', ha1', hbs1', d0⟩ := TA.out.one HBW2.out (map_get HX1.out)
            obtain ⟨b2', o2', ha2', hbs2', d1⟩ := TB.out.one HBW2.out (map_get HY1.out)
            simp only [Option.some.injEq, Addr.mk.injEq, and_true] at ha1' ha2'
            obtain ⟨rfl, rfl⟩ := ha1'
            obtain ⟨rfl, rfl⟩ := ha2'
            obtain ⟨f, hf⟩ : ∃ f, fitR (A.take k) (B.take k) = f := ⟨_, rfl⟩
            rw [hf] at HN2 ⊢
            clear hf
            cases f
            · go_wp2_with fail
              go_quiet (fail)
              go_wp2_with fail
              go_roundg (nY - (k + 1))
              case measure => have := HJ.out; omega
              case rel => exact ⟨k + 1, by omega, by go_num, by rw [HN2.out]; rfl, Lib.hid (HO2.out.below (below_drewN (Below.refl _ _) _)), Lib.hid (below_drewN HW2.out _)⟩
            · by_cases hxy : x ≤ y
              · go_wp2_with fail
                go_quiet (fail)
                go_wp2_with fail
                go_roundg (nY - (k + 1))
                case measure => have := HJ.out; omega
                case rel => exact ⟨k + 1, by omega, by go_num, by rw [HN2.out, decide_eq_true hxy]; rfl, Lib.hid (HO2.out.below (below_drewN (Below.refl _ _) _)), Lib.hid (below_drewN HW2.out _)⟩
              · have td : decide (x ≤ y) = false := decide_eq_false hxy
                clear hxy
                have HTD := Lib.hid td
                go_wp2_with fail
                go_quiet (fail)
                go_wp2_with fail
                go_roundg (nY - (k + 1))
                case measure => have := HJ.out; omega
                case rel => exact ⟨k + 1, by omega, by go_num, by rw [HN2.out, HTD.out]; rfl, Lib.hid (HO2.out.below (below_drewN (Below.refl _ _) _)), Lib.hid (below_drewN HW2.out _)⟩
          · obtain rfl : k = nY := by omega
            rw [List.take_of_length_le (by rw [HNY.out]; exact Nat.le_refl _)] at HO
            rw [List.take_of_length_le (by rw [LA.out]; exact Nat.le_refl _), List.take_of_length_le (by rw [LB.out]; exact Nat.le_refl _), ← HZF.out]
            obtain ⟨aQ, cQ, hvq, hTQ⟩ := own_ints HO.out HNY.out
            have CE := Lib.hid (equal_ints aY aQ k cY k cQ Y Y wr (TY.out.below HW.out) hTQ true (by simp))
            subst hvq
            have tz : (Z == Z) = true := by simp
            clear hTQ
            go_wp2_with fail
            refine CE.out.mono ?_
            rintro e v10 ⟨rfl, hb⟩
            have HB10 := Lib.hid (below_on HBW.out hb)
            clear hb
            cases Z
            · go_wp2
              go_ret
              exact ⟨rfl, HB10.out⟩
            · go_wp2
              go_ret
              exact ⟨rfl, HB10.out⟩
  · obtain rfl : F = E := by rw [← HF.out]; unfold putE; rw [if_pos (by rw [HE.out]; exact hE0), HE.out]
    have hF0 : putE A n ≠ 0 := by rw [HF.out]; exact hE0
    obtain rfl : P = F := by rw [← HP.out]; unfold pairE; rw [if_pos (by rw [HE.out]; exact hE0), HE.out]
    have hP0 : pairE A B ≠ 0 := by rw [HP.out]; exact hE0
    obtain rfl : nX = 0 := by rw [← HNX.out, ← HX.out]; unfold putL; rw [if_neg hF0]; rfl
    obtain rfl : nY = 0 := by rw [← HNY.out, ← HY.out]; unfold joinL; rw [if_neg hP0]; rfl
    obtain rfl : Z = false := by rw [← HZ.out]; unfold fitB; rw [if_neg hP0]
    have t1 : (P != 0) = true := by simpa using hE0
    have t2 : (P == P) = true := by simp
    clear hF0 hP0 hE0
    go_wp2_with fail
    go_ret
    exact ⟨rfl, HB6.out⟩

set_option maxRecDepth 100000 in
theorem lifted (os : Os) (started : os.Started) (H : Type) (enc : TypeId × Value → H) :
    ReturnsInHanded {} Try.checked os 3 .any (Rows.regsSaySpec.pre6 enc Try.prog Try.f3 Rows.regsSayRow.domain false) (Rows.regsSaySpec.post enc Try.prog Try.f3 false true false false) := by
  refine returnsInHanded_of_change_sized (C := Try.checked) own started (by kernel_rfl) Try.func3
    (ChangeSpec.witness6 (enc := enc) (C := Try.checked) false ⟨#[], #[.slice none 0 0, .slice none 0 0, .int .i64 0], []⟩ 8 (by kernel_rfl) (by kernel_rfl) (by kernel_rfl) (by kernel_rfl)) ?_
  intro W base args ds gs before hval0 hW hcnd hsz0 _
  have hval : ∀ (j : Nat) t v, Try.f3.params[j]? = some t → args[j]? = some v → Value.okWide Try.prog W .any base t v := hval0
  have hW' := hW
  obtain ⟨p, q, hA0, hV, rfl, hfz, hnd⟩ := hW
  have hA : DataW.TrodAll enc Try.prog W 0 (fun _ => true) true Try.f3.params.toList args.toList ds p := hA0
  have hsz : (DataW.weightsEach Try.prog (Try.f3.params.toList ++ Rows.regsSaySpec.plain.varTypes Try.prog) (ds ++ gs)).all (· ≤ reachBytes) = true := hsz0
  rw [Try.params3] at hA hval hsz
  obtain ⟨v0, vs0, d0, ds0, p0, q0, hargs, rfl, rfl, h0, r0⟩ := trodAll_cons hA
  obtain ⟨v1, vs1, d1, ds1, p1, q1, rfl, rfl, rfl, h1, r1⟩ := trodAll_cons r0
  obtain ⟨v2, vs2, d2, ds2, p2, q2, rfl, rfl, rfl, h2, r2⟩ := trodAll_cons r1
  obtain ⟨rfl, rfl, rfl⟩ := trodAll_nil r2
  obtain rfl : args = #[v0, v1, v2] := by cases args; simp_all
  obtain ⟨rfl, rfl⟩ := trodVars_none hV
  have k0 := h0
  have L0 := light_of hsz (j := 0) (t := 22) (d := d0) rfl rfl
  have lt0 : ∀ x ∈ p0, x.block < W.heap.size := by obtain ⟨m, hm⟩ := k0; exact DataW.trod_lt m _ _ _ hm
  obtain ⟨a0, len0, cap0, rfl⟩ := okWide_slice Try.underlying22 (hval 0 22 v0 rfl rfl)
  obtain ⟨n0, f0⟩ := trod_slice_of Try.underlying22 h0
  have F0 := And.intro f0 L0
  obtain ⟨x0, e0, t0, b0, o0⟩ := el_slice (w := W) (k := 1) iC wfI (by decide) Try.underlying22 (by kernel_rfl) (el_int Try.underlying3) (B := 8) (by kernel_rfl) _ _ _ F0.1 F0.2
  simp only [slC, List.cons.injEq, Value.slice.injEq, and_true] at e0
  obtain ⟨rfl, rfl, rfl⟩ := e0
  have k1 := h1
  have L1 := light_of hsz (j := 1) (t := 22) (d := d1) rfl rfl
  have lt1 : ∀ x ∈ p1, x.block < W.heap.size := by obtain ⟨m, hm⟩ := k1; exact DataW.trod_lt m _ _ _ hm
  obtain ⟨a1, len1, cap1, rfl⟩ := okWide_slice Try.underlying22 (hval 1 22 v1 rfl rfl)
  obtain ⟨n1, f1⟩ := trod_slice_of Try.underlying22 h1
  have F1 := And.intro f1 L1
  obtain ⟨x1, e1, t1, b1, o1⟩ := el_slice (w := W) (k := 1) iC wfI (by decide) Try.underlying22 (by kernel_rfl) (el_int Try.underlying3) (B := 8) (by kernel_rfl) _ _ _ F1.1 F1.2
  simp only [slC, List.cons.injEq, Value.slice.injEq, and_true] at e1
  obtain ⟨rfl, rfl, rfl⟩ := e1
  have k2 := h2
  have L2 := light_of hsz (j := 2) (t := 3) (d := d2) rfl rfl
  have lt2 : ∀ x ∈ p2, x.block < W.heap.size := by obtain ⟨m, hm⟩ := k2; exact DataW.trod_lt m _ _ _ hm
  obtain ⟨x2, rfl, rfl, rfl, w2⟩ := open_int Try.underlying3 (hval 2 3 v2 rfl rfl) h2
  clear hA0 hval0
  refine (walk x0 x1 x2 W t0 b0 o0 t1 b1 o1 w2).mono fun e W' ⟨he, hg⟩ => ?_
  subst he
  exact ⟨_, rfl, _, _, _, [], _, [], hW', trodAll_mk1 (shut_bool Try.underlying4 _), (trodAll_cons_mk (Below.trod laidOut (by kernel_rfl) (of_decide_eq_true (by kernel_rfl)) k0 hg lt0) (trodAll_cons_mk (Below.trod laidOut (by kernel_rfl) (of_decide_eq_true (by kernel_rfl)) k1 hg lt1) (trodAll_cons_mk (Below.trod laidOut (by kernel_rfl) (of_decide_eq_true (by kernel_rfl)) k2 hg lt2) trodAll_mk0))), rfl, hg.frame _, fun h => by cases h⟩

theorem over : Rows.regsSayRow.holds Try.pinned (OpenSpec.ofChange Rows.regsSaySpec) :=
  OpenClaim.holds_of_wide 3 Try.f3 rfl rfl rfl rfl rfl rfl rfl ⟨rfl, rfl, rfl, rfl, rfl⟩ rfl rfl rfl rfl rfl (by kernel_rfl) Try.func3 (by kernel_rfl)
    (of_decide_eq_true (by kernel_rfl)) (by unfold Func.isWrapper; first | (rw [if_pos (by decide +kernel)]; kernel_rfl) | (rw [if_neg (by decide +kernel)]; exact ⟨rfl, rfl⟩))
    (fun os started H enc _ => lifted os started H enc)

/-- ████ THE STATEMENT ████ -/
theorem proved : Rows.RegsSaySaid :=
  over
#print axioms proved
end Go.Proofs.Ytffgoekdjcempaa.regsSay
