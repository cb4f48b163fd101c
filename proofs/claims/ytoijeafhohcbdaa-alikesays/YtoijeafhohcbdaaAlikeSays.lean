/-
  'Rows.AlikeSaysSaid' is proved: whatever is handed in, First, Sign and Same answer what the document says. No condition.
-/
import Derived.Test.YtoijeafhohcbdaaRows
import Derived.Test.YtoijeafhohcbdaaShapes
import Derived.Test.YtoijeafhohcbdaaAlikeSign
import Derived.Test.YtoijeafhohcbdaaRefFirst
import Derived.Test.YtoijeafhohcbdaaEqualInts
import Derived.Test.YtoijeafhohcbdaaLit
import Derived.Deep.DeepCutAuto
import Derived.BigQuiet
import Derived.Deep.QuietTactic
import Derived.WalkKit
import Derived.ProofKit
import Derived.OpenShut
import Derived.ShutString
import Derived.ChangeOld
import Derived.Below
namespace Go.Proofs.Ytoijeafhohcbdaa.alikeSays
open Go.ChangeShapes Go.WideShapes Go.ChangeAt Go.RowKit
open Go.ChangeMaps (open_string shut_string)
set_option linter.unusedVariables false

theorem own : ownKnob Try.prog.godebug = none := by kernel_rfl
theorem laidOut : laidOutB Try.prog = true := by kernel_rfl

open Alk Digit
theorem lit_says : firstR [1, 0] [0, 1] = 1 ∧ firstE [1, 0] [0, 1] = 0 := by decide +kernel
theorem signs_all {os : List (List Int)} {l : List Int} (h : signE os l = 0) : signR os l = os.map (fun o => firstR o l) := by
  have h2 : goG l os = 0 := by
    unfold signE at h
    split at h
    · cases h
    · exact h
  rw [show signR os l = signL os l from if_pos h]
  unfold signL
  apply List.map_congr_left
  intro o ho
  exact (if_pos (goG_zero.1 h2 o ho)).symm

set_option maxRecDepth 100000 in
set_option maxHeartbeats 2000000 in
theorem walk (x0 : Sl (Sl Int)) (x1 : Sl Int) (x2 : Sl Int) (w : World) (t0 : Tab w x0.a x0.len x0.cap 1 (x0.l.map slC)) (b0 : x0.len * 24 ≤ 140737488351232) (o0 : ∀ z ∈ x0.l, (fun y : Sl Int => Tab w y.a y.len y.cap 1 (y.l.map iC) ∧ y.len * 8 ≤ 140737488351232 ∧ ∀ z ∈ y.l, wfI z) z) (t1 : Tab w x1.a x1.len x1.cap 1 (x1.l.map iC)) (b1 : x1.len * 8 ≤ 140737488351232) (o1 : ∀ z ∈ x1.l, wfI z) (t2 : Tab w x2.a x2.len x2.cap 1 (x2.l.map iC)) (b2 : x2.len * 8 ≤ 140737488351232) (o2 : ∀ z ∈ x2.l, wfI z) :
    Calls Try.prog 3 #[.slice x0.a x0.len x0.cap, .slice x1.a x1.len x1.cap, .slice x2.a x2.len x2.cap] w fun e w' => e = .returned (.bool true) ∧ Below w.heap.size w w' := by
  obtain ⟨q, n, cp, S⟩ := x0
  obtain ⟨a, len, cap, l⟩ := x1
  obtain ⟨b, len2, cap2, m⟩ := x2
  have hT0 : Tab w q n cp 1 (S.map slC) := t0
  have hT1 : Tab w a len cap 1 (l.map iC) := t1
  have hT2 : Tab w b len2 cap2 1 (m.map iC) := t2
  have hS : ∀ s ∈ S, Tab w s.a s.len s.cap 1 (s.l.map iC) := fun s hs => (o0 s hs).1
  have hby : n * 24 ≤ 140737488351232 := b0
  clear t0 t1 t2 o0 o1 o2 b0 b1 b2
  have hln : S.length = n := by have h := hT0.hlen; rw [List.length_map] at h; exact h
  have hl1 : l.length = len := by have h := hT1.hlen; rw [List.length_map] at h; exact h
  have hl2 : m.length = len2 := by have h := hT2.hlen; rw [List.length_map] at h; exact h
  have hm0 := hT0.hmax
  have hle0 := hT0.hle
  have hm1 := hT1.hmax
  have hle1 := hT1.hle
  have hm2 := hT2.hmax
  have hle2 := hT2.hle
  unfold maxLen at hm0 hm1 hm2
  have C1 := sign_any q a n cp len cap S l w hT0 hS hT1
  have hRR := fun h => signs_all (os := S.map (·.l)) (l := l) h
  have hR0 : signE (S.map (·.l)) l ≠ 0 → signR (S.map (·.l)) l = [] := fun h => if_neg h
  have hE0 : signE (S.map (·.l)) l = if 40 < n then 2 else goG l (S.map (·.l)) := by unfold signE; rw [List.length_map, hln]
  obtain ⟨E, hE⟩ : ∃ E, signE (S.map (·.l)) l = E := ⟨_, rfl⟩
  obtain ⟨R, hR⟩ : ∃ R, signR (S.map (·.l)) l = R := ⟨_, rfl⟩
  rw [hE, hR] at C1
  rw [hE, hR] at hRR hR0
  rw [hE] at hE0
  have HRR := Lib.hid hRR
  have HR0 := Lib.hid hR0
  have HE0 := Lib.hid hE0
  have HC1 := Lib.hid C1
  have C2 := fun W (hb : Below w.heap.size w W) => same_any a b len cap len2 cap2 l m W (hT1.below hb) (hT2.below hb)
  obtain ⟨FS, hFS⟩ : ∃ F, sameE len len2 = F := ⟨_, rfl⟩
  obtain ⟨NS, hNS⟩ : ∃ N, (if FS = 0 then ((sameTo l m len : Nat) : Int) else 0) = N := ⟨_, rfl⟩
  rw [hFS, hNS] at C2
  have HFS := Lib.hid (And.intro hFS hNS)
  have HC2 := Lib.hid C2
  clear C2 hFS hNS
  have HCL := Lib.hid (fun W => first_any (some ⟨(W : World).heap.size, 0, none⟩) (some ⟨W.heap.size + 1, 0, none⟩) 2 2 2 2 [1, 0] [0, 1] _ ((tab_lit W 3 1 2 ([(1 : Int), 0].map iC) #[.int .i64 1, .int .i64 0] rfl rfl (rows_of iC_len _) (by decide) _ rfl).below ((Below.refl _ _).alloc (Nat.le_refl _) _)) (tab_lit (W.alloc (.cells #[.int .i64 1, .int .i64 0] 3)) 3 1 2 ([(0 : Int), 1].map iC) #[.int .i64 0, .int .i64 1] rfl rfl (rows_of iC_len _) (by decide) _ (by simp)))
  rw [lit_says.1, lit_says.2] at HCL
  have HT0 := Lib.hid hT0
  have HT1 := Lib.hid hT1
  have HT2 := Lib.hid hT2
  have HS := Lib.hid hS
  have HL := Lib.hid (And.intro hln (And.intro hl1 hl2))
  clear hT0 hT1 hT2 hS hln hl1 hl2 C1 hRR hR0 hE0 hE hR
  go_enter Try.func3, Try.ntmps3
  go_wp2_with fail
  refine HC1.out.mono ?_
  rintro e v1 ⟨q1, rfl, hO, hb⟩
  obtain ⟨aR, cR, rfl, hT⟩ := hO.tab
  rw [List.length_map] at hT ⊢
  obtain ⟨nR, hnR⟩ : ∃ u, R.length = u := ⟨_, rfl⟩
  rw [hnR] at hT ⊢
  have HNR := Lib.hid hnR
  have HTR := Lib.hid hT
  have HB1 := Lib.hid hb
  have HD2 := Lib.hid (HC2.out v1 hb)
  clear hb hO hT hnR HC1 HC2
  go_wp2_with fail
  refine HD2.out.mono ?_
  rintro e v2 ⟨rfl, hv2⟩
  rw [← hv2]
  clear hv2 HD2
  have hbl : Below v1.heap.size v1 ((v1.alloc (.cells #[.int .i64 1, .int .i64 0] 3)).alloc (.cells #[.int .i64 0, .int .i64 1] 3)) := ((Below.refl _ _).alloc (Nat.le_refl _) _).alloc (by simp) _
  have HBL := Lib.hid hbl
  have HCL1 := Lib.hid (HCL.out v1)
  clear hbl HCL
  go_wp2_with fail
  refine HCL1.out.mono ?_
  rintro e v3 ⟨rfl, hb⟩
  have hb3 := below_on HBL.out hb
  have HB3 := Lib.hid (below_on HB1.out hb3)
  replace HTR := Lib.hid (HTR.out.below hb3)
  clear hb hb3 HBL HCL1 HB1
  go_upto_if 49 with fail
  go_cut [14] (fun s wx => s = .int .i64 (if 40 < n then 2 else 0) ∧ wx = v3)
  case first =>
    by_cases h : 40 < n
    · have h' : (40 : Int) < (n : Int) := by omega
      have h2 := Lib.hid h
      clear h
      go_wp2_with fail
      go_meet
      case rel => exact ⟨by rw [if_pos h2.out], rfl⟩
    · have h' : (n : Int) ≤ 40 := by omega
      have h2 := Lib.hid h
      clear h
      go_wp2_with fail
      go_meet
      case rel => exact ⟨by rw [if_neg h2.out], rfl⟩
  case rest =>
  obtain ⟨rfl, hwc⟩ := hcut
  rw [hwc]
  clear hwc
  have HG0 : Hid (E = if (if 40 < n then (2 : Int) else 0) ≠ 0 then (if 40 < n then 2 else 0) else goG l ((S.map (·.l)).drop 0)) := Lib.hid (by
    rw [HE0.out, List.drop_zero]
    by_cases h : 40 < n
    · rw [if_pos h, if_pos h, if_pos (by decide)]
    · rw [if_neg h, if_neg h, if_neg (by decide)])
  clear HE0
  generalize (if 40 < n then (2 : Int) else 0) = u0 at *
  go_wp2_with fail
  go_loopg [13, 14, 52] n (fun g v u i wr => ∃ (k : Nat) (z : Int), k + g = n ∧ i = .int .i64 k ∧ u = .int .i64 z ∧ Hid (E = if z ≠ 0 then z else goG l ((S.map (·.l)).drop k)) ∧ Hid (Own wr v3.heap.size 3 1 v (((S.take k).map (fun s => firstR s.l l)).map iC)) ∧ Hid (Below v3.heap.size v3 wr))
  case atStart => exact ⟨0, u0, by omega, rfl, rfl, HG0, Lib.hid (Own.nil _ _ _ _), Lib.hid (Below.refl _ _)⟩
  case round =>
    clear HG0
    obtain ⟨k, z, hk0, rfl, rfl, HG, HV, HB⟩ := hrel
    have HJ := Lib.hid hk0
    have hk : k ≤ n := by omega
    clear hk0
    obtain ⟨wo, hwo⟩ : ∃ wo, wo = wr := ⟨_, rfl⟩
    subst hwo
    by_cases hlt : k < n
    · obtain ⟨s, hs⟩ : ∃ x, S[k]? = some x := ⟨_, List.getElem?_eq_getElem (by rw [HL.out.1]; exact hlt)⟩
      have hbw := below_on HB3.out HB.out
      obtain ⟨b1, o1, ha, hbs, c9⟩ := HT0.out.one hbw (show (S.map slC)[k]? = some [Value.slice s.a s.len s.cap] from map_get hs)
      have hos : (S.map (·.l))[k]? = some s.l := map_get hs
      have C4 := first_any s.a a s.len s.cap len cap s.l l wo ((HS.out s (List.mem_of_getElem? hs)).below hbw) (HT1.out.below hbw)
      have C5 := fun W (hb : Below wo.heap.size wo W) => refFirst_any s.a a s.len s.cap len cap s.l l W (((HS.out s (List.mem_of_getElem? hs)).below hbw).below hb) ((HT1.out.below hbw).below hb)
      have hA := goG_at (l := l) hos
      have hN : (S.take (k + 1)).map (fun s => firstR s.l l) = (S.take k).map (fun s => firstR s.l l) ++ [firstR s.l l] := by
        rw [List.take_add_one, hs, List.map_append]; rfl
      obtain ⟨sa, sn, sc, o⟩ := s
      simp only at c9 C4 C5 hA hN
      generalize firstR o l = f at *
      generalize firstE o l = d at *
      have HN := Lib.hid hN
      have HA := Lib.hid hA
      replace C4 := Lib.hid C4
      replace C5 := Lib.hid C5
      have hsz := HB.out.size
      have hlK : (((S.take k).map (fun s => firstR s.l l)).map iC).length = k := by rw [List.length_map, List.length_map, List.length_take, HL.out.1]; omega
      have HLK := Lib.hid hlK
      have tf : (f != f) = false := by simp
      have td : (d != d) = false := by simp
      subst ha
      clear hs hos hA hN hbw hlK
      go_wp2_with fail
      refine C4.out.mono ?_
      rintro e w5 ⟨rfl, hb⟩
      have HB5 := Lib.hid hb
      have HC5 := Lib.hid (C5.out w5 hb)
      clear hb C4 C5
      go_wp2_with fail
      refine HC5.out.mono ?_
      rintro e w6 ⟨rfl, hw6⟩
      rw [← hw6]
      clear hw6 HC5
      have HV5 := Lib.hid (HV.out.below HB5.out)
      have HB6 := Lib.hid (HB.out.trans (HB5.out.mono hsz))
      have hsz5 : v3.heap.size ≤ w5.heap.size := Nat.le_trans hsz HB5.out.size
      clear HV HB5
      by_cases hz : z = 0
      · subst hz
        have HG2 : Hid (E = if d ≠ 0 then d else goG l ((S.map (·.l)).drop (k + 1))) := Lib.hid (by rw [HG.out, if_neg (by decide)]; exact HA.out)
        clear HG HA
        go_wp2_with (at_builtin; refine wpList_append_rows _ rfl _ _ 23 rfl v3.heap.size 3 _ 1 8 Try.underlying23 info_int rfl (by decide) _ (((S.take k).map (fun s => firstR s.l l)).map iC) rfl (HV5.out.alloc _) ⟨w5.heap.size, 0, none⟩ 1 1 [iC f] rfl rfl (by simp [iC]) (one_row w5 (iC f) 3 _ rfl) (by simp [iC, Value.oneCell']) (by rw [HLK.out]; omega) (by decide) (by simp; omega) ?_; intro v7 w7 hO7 hg7)
        go_roundg (n - (k + 1))
        case measure => have := HJ.out; omega
        case rel =>
          refine ⟨k + 1, d, by omega, by go_num, rfl, HG2, Lib.hid ?_, Lib.hid ((HV5.out.alloc (.cells #[.int .i64 f] 3)).under (HB6.out.alloc hsz5 _) (Nat.le_refl _) (by simp; omega) hg7)⟩
          rw [HN.out, List.map_append]
          exact hO7
      · have tz : (z == 0) = false := by simpa using hz
        have HG2 : Hid (E = if z ≠ 0 then z else goG l ((S.map (·.l)).drop (k + 1))) := Lib.hid (by rw [HG.out, if_pos hz, if_pos hz])
        clear HG HA hz
        go_wp2_with (at_builtin; refine wpList_append_rows _ rfl _ _ 23 rfl v3.heap.size 3 _ 1 8 Try.underlying23 info_int rfl (by decide) _ (((S.take k).map (fun s => firstR s.l l)).map iC) rfl (HV5.out.alloc _) ⟨w5.heap.size, 0, none⟩ 1 1 [iC f] rfl rfl (by simp [iC]) (one_row w5 (iC f) 3 _ rfl) (by simp [iC, Value.oneCell']) (by rw [HLK.out]; omega) (by decide) (by simp; omega) ?_; intro v7 w7 hO7 hg7)
        go_roundg (n - (k + 1))
        case measure => have := HJ.out; omega
        case rel =>
          refine ⟨k + 1, z, by omega, by go_num, rfl, HG2, Lib.hid ?_, Lib.hid ((HV5.out.alloc (.cells #[.int .i64 f] 3)).under (HB6.out.alloc hsz5 _) (Nat.le_refl _) (by simp; omega) hg7)⟩
          rw [HN.out, List.map_append]
          exact hO7
    · obtain rfl : k = n := by omega
      have hEz : E = z := by
        have h9 := HG.out
        rw [List.drop_of_length_le (by rw [List.length_map, HL.out.1]; exact Nat.le_refl _)] at h9
        by_cases hz : z = 0
        · rw [h9, hz, if_neg (by decide)]; try rfl
        · rw [h9, if_pos hz]
      subst hEz
      obtain ⟨av, cv, rfl, hTv⟩ := HV.out.tab
      have HLV : Hid ((S.take k).map (fun s => firstR s.l l) = (S.map (·.l)).map (fun o => firstR o l)) := Lib.hid (by rw [List.take_of_length_le (by rw [HL.out.1]; exact Nat.le_refl _), List.map_map]; rfl)
      rw [HLV.out] at hTv ⊢
      have hlv : (((S.map (·.l)).map (fun o => firstR o l)).map iC).length = k := by simp; exact HL.out.1
      rw [hlv] at hTv ⊢
      have HTV := Lib.hid hTv
      have HBW := Lib.hid (below_on HB3.out HB.out)
      replace HTR := Lib.hid (HTR.out.below HB.out)
      generalize hVV : (S.map (·.l)).map (fun o => firstR o l) = V at *
      have HVV := Lib.hid hVV
      clear hTv hlv HLV HG HV HB HB3 HS HT0 HJ hlt hVV
      obtain ⟨wq, hwq⟩ : ∃ wq, wq = wo := ⟨_, rfl⟩
      subst hwq
      by_cases hE : E = 0
      · subst hE
        have hRV : R = V := by first | exact HRR.out rfl | (rw [HRR.out rfl]; exact HVV.out)
        have hnk : nR = k := by
          have h9 := HTV.out.hlen
          rw [List.length_map] at h9
          exact (HNR.out.symm.trans (by rw [hRV])).trans h9
        have CE := Lib.hid (equal_ints aR av nR cR k cv R V wq HTR.out HTV.out true (by simp [hRV]))
        clear hRV hnk HRR HR0 HVV HNR HTR HTV
        go_upto_region 24 with fail
        go_cut [101] (fun s wx => s = .bool false ∧ Hid (Below wq.heap.size wq wx))
        case first =>
          go_wp2_with fail
          refine CE.out.mono ?_
          rintro e w8 ⟨rfl, hb⟩
          have HBX := Lib.hid hb
          clear hb CE
          go_wp2_with fail
          go_meet
          case rel => exact ⟨rfl, HBX⟩
        case rest =>
        obtain ⟨rfl, HBX⟩ := hcut
        clear CE
        have HBY := Lib.hid (below_on HBW.out HBX.out)
        have hFN := HFS.out
        by_cases g1 : 40 < len ∨ 40 < len2
        · have e1 : sameE len len2 = 2 := if_pos g1
          have hF2 : FS = 2 := by rw [← hFN.1]; exact e1
          subst hF2
          have hN0 : NS = 0 := by rw [← hFN.2, if_neg (by decide)]
          subst hN0
          obtain ⟨p1, hp1⟩ : ∃ p : Bool, decide ((40 : Int) < (len : Int)) = p := ⟨_, rfl⟩
          have hp2 : p1 = false → decide ((40 : Int) < (len2 : Int)) = true := by
            intro h
            rw [h, decide_eq_false_iff_not] at hp1
            rw [decide_eq_true_iff]
            omega
          clear HFS hFN e1 g1
          cases p1
          · have hp3 := hp2 rfl
            have hp4 : (len : Int) ≤ 40 := by rw [decide_eq_false_iff_not] at hp1; omega
            have hp5 : (40 : Int) < (len2 : Int) := by rw [decide_eq_true_iff] at hp3; exact hp3
            clear hp2 hp1 hp3
            go_wp2_with fail
            go_ret
            exact ⟨rfl, HBY.out⟩
          · have hp5 : (40 : Int) < (len : Int) := by rw [decide_eq_true_iff] at hp1; exact hp1
            clear hp2 hp1
            go_wp2_with fail
            go_ret
            exact ⟨rfl, HBY.out⟩
        have g2 : (len : Int) ≤ 40 := by omega
        have g3 : (len2 : Int) ≤ 40 := by omega
        by_cases g4 : len ≠ len2
        · have e1 : sameE len len2 = 7 := (if_neg g1).trans (if_pos g4)
          have hF2 : FS = 7 := by rw [← hFN.1]; exact e1
          subst hF2
          have hN0 : NS = 0 := by rw [← hFN.2, if_neg (by decide)]
          subst hN0
          have t4 : ((len : Int) != (len2 : Int)) = true := by simp; omega
          clear HFS hFN e1 g1 g4
          go_wp2_with fail
          go_ret
          exact ⟨rfl, HBY.out⟩
        have g5 : len = len2 := by omega
        subst g5
        have e1 : sameE len len = 0 := (if_neg g1).trans (if_neg (by simp))
        have hF2 : FS = 0 := by rw [← hFN.1]; exact e1
        subst hF2
        have hN2 : ((sameTo l m len : Nat) : Int) = NS := by rw [← hFN.2, if_pos rfl]
        subst hN2
        have t4 : ((len : Int) != (len : Int)) = false := by simp
        have hcl := sameTo_le l m len
        clear HFS hFN e1 g1 g4
        go_wp2_with fail
        go_loopg [21, 129] len (fun g u i wr => ∃ t : Nat, t + g = len ∧ i = .int .i64 t ∧ u = .int .i64 ((t : Int) - (sameTo l m t : Nat)) ∧ Hid (Below w.heap.size w wr))
        case atStart => exact ⟨0, by omega, rfl, rfl, HBY⟩
        case round =>
          obtain ⟨t, ht0, rfl, rfl, HBt⟩ := hrel
          have HJ2 := Lib.hid ht0
          have ht : t ≤ len := by omega
          clear ht0
          have hct := sameTo_le l m t
          obtain ⟨wz, hwz⟩ : ∃ wz, wz = wr := ⟨_, rfl⟩
          subst hwz
          by_cases hlt : t < len
          · obtain ⟨x, hx⟩ : ∃ x, l[t]? = some x := ⟨_, List.getElem?_eq_getElem (by rw [HL.out.2.1]; exact hlt)⟩
            obtain ⟨y, hy⟩ : ∃ x, m[t]? = some x := ⟨_, List.getElem?_eq_getElem (by rw [HL.out.2.2]; exact hlt)⟩
            obtain ⟨b1, o1, ha, _, c0⟩ := HT1.out.one HBt.out (map_get hx)
            obtain ⟨b2, o2, ha2, _, c1⟩ := HT2.out.one HBt.out (map_get hy)
            have hs : sameTo l m (t + 1) = sameTo l m t + if x = y then 1 else 0 := by rw [sameTo, hx, hy]; rfl
            have HSS := Lib.hid hs
            generalize sameTo l m t = c at *
            subst ha ha2
            clear hx hy hs
            by_cases hxy : x = y
            · subst hxy
              have t2 : (x != x) = false := by simp
              rw [if_pos rfl] at HSS
              go_wp2_with fail
              go_quiet (fail)
              go_wp2_with fail
              go_roundg (len - (t + 1))
              case measure => have := HJ2.out; omega
              case rel => exact ⟨t + 1, by omega, by go_num, by rw [HSS.out]; congr 1; omega, Lib.hid (below_drewN HBt.out _)⟩
            · have t2 : (x != y) = true := by simpa using hxy
              rw [if_neg hxy] at HSS
              clear hxy
              go_wp2_with fail
              go_quiet (fail)
              go_wp2_with fail
              go_roundg (len - (t + 1))
              case measure => have := HJ2.out; omega
              case rel => exact ⟨t + 1, by omega, by go_num, by rw [HSS.out]; congr 1; omega, Lib.hid (below_drewN HBt.out _)⟩
          · obtain rfl : t = len := by omega
            generalize sameTo l m t = c at *
            have e9 : (t : Int) - ((t : Int) - (c : Int)) = (c : Int) := by omega
            have t9 : ((c : Int) == (c : Int)) = true := by simp
            go_wp2_with fail
            go_ret
            exact ⟨by simp [e9], HBt.out⟩
      · have tE : (E != 0) = true := by simpa using hE
        have tE2 : (E != E) = false := by simp
        have hR0 : R = [] := HR0.out hE
        have hn0 : nR = 0 := by rw [← HNR.out, hR0]; rfl
        subst hn0
        clear HRR HR0 HVV HNR HTR HTV hE hR0
        obtain ⟨HBX⟩ : Nonempty (Hid (Below wq.heap.size wq wq)) := ⟨Lib.hid (Below.refl _ _)⟩
        have HBY := Lib.hid (below_on HBW.out HBX.out)
        have hFN := HFS.out
        by_cases g1 : 40 < len ∨ 40 < len2
        · have e1 : sameE len len2 = 2 := if_pos g1
          have hF2 : FS = 2 := by rw [← hFN.1]; exact e1
          subst hF2
          have hN0 : NS = 0 := by rw [← hFN.2, if_neg (by decide)]
          subst hN0
          obtain ⟨p1, hp1⟩ : ∃ p : Bool, decide ((40 : Int) < (len : Int)) = p := ⟨_, rfl⟩
          have hp2 : p1 = false → decide ((40 : Int) < (len2 : Int)) = true := by
            intro h
            rw [h, decide_eq_false_iff_not] at hp1
            rw [decide_eq_true_iff]
            omega
          clear HFS hFN e1 g1
          cases p1
          · have hp3 := hp2 rfl
            have hp4 : (len : Int) ≤ 40 := by rw [decide_eq_false_iff_not] at hp1; omega
            have hp5 : (40 : Int) < (len2 : Int) := by rw [decide_eq_true_iff] at hp3; exact hp3
            clear hp2 hp1 hp3
            go_wp2_with fail
            go_ret
            exact ⟨rfl, HBY.out⟩
          · have hp5 : (40 : Int) < (len : Int) := by rw [decide_eq_true_iff] at hp1; exact hp1
            clear hp2 hp1
            go_wp2_with fail
            go_ret
            exact ⟨rfl, HBY.out⟩
        have g2 : (len : Int) ≤ 40 := by omega
        have g3 : (len2 : Int) ≤ 40 := by omega
        by_cases g4 : len ≠ len2
        · have e1 : sameE len len2 = 7 := (if_neg g1).trans (if_pos g4)
          have hF2 : FS = 7 := by rw [← hFN.1]; exact e1
          subst hF2
          have hN0 : NS = 0 := by rw [← hFN.2, if_neg (by decide)]
          subst hN0
          have t4 : ((len : Int) != (len2 : Int)) = true := by simp; omega
          clear HFS hFN e1 g1 g4
          go_wp2_with fail
          go_ret
          exact ⟨rfl, HBY.out⟩
        have g5 : len = len2 := by omega
        subst g5
        have e1 : sameE len len = 0 := (if_neg g1).trans (if_neg (by simp))
        have hF2 : FS = 0 := by rw [← hFN.1]; exact e1
        subst hF2
        have hN2 : ((sameTo l m len : Nat) : Int) = NS := by rw [← hFN.2, if_pos rfl]
        subst hN2
        have t4 : ((len : Int) != (len : Int)) = false := by simp
        have hcl := sameTo_le l m len
        clear HFS hFN e1 g1 g4
        go_wp2_with fail
        go_loopg [21, 129] len (fun g u i wr => ∃ t : Nat, t + g = len ∧ i = .int .i64 t ∧ u = .int .i64 ((t : Int) - (sameTo l m t : Nat)) ∧ Hid (Below w.heap.size w wr))
        case atStart => exact ⟨0, by omega, rfl, rfl, HBY⟩
        case round =>
          obtain ⟨t, ht0, rfl, rfl, HBt⟩ := hrel
          have HJ2 := Lib.hid ht0
          have ht : t ≤ len := by omega
          clear ht0
          have hct := sameTo_le l m t
          obtain ⟨wz, hwz⟩ : ∃ wz, wz = wr := ⟨_, rfl⟩
          subst hwz
          by_cases hlt : t < len
          · obtain ⟨x, hx⟩ : ∃ x, l[t]? = some x := ⟨_, List.getElem?_eq_getElem (by rw [HL.out.2.1]; exact hlt)⟩
            obtain ⟨y, hy⟩ : ∃ x, m[t]? = some x := ⟨_, List.getElem?_eq_getElem (by rw [HL.out.2.2]; exact hlt)⟩
            obtain ⟨b1, o1, ha, _, c0⟩ := HT1.out.one HBt.out (map_get hx)
            obtain ⟨b2, o2, ha2, _, c1⟩ := HT2.out.one HBt.out (map_get hy)
            have hs : sameTo l m (t + 1) = sameTo l m t + if x = y then 1 else 0 := by rw [sameTo, hx, hy]; rfl
            have HSS := Lib.hid hs
            generalize sameTo l m t = c at *
            subst ha ha2
            clear hx hy hs
            by_cases hxy : x = y
            · subst hxy
              have t2 : (x != x) = false := by simp
              rw [if_pos rfl] at HSS
              go_wp2_with fail
              go_quiet (fail)
              go_wp2_with fail
              go_roundg (len - (t + 1))
              case measure => have := HJ2.out; omega
              case rel => exact ⟨t + 1, by omega, by go_num, by rw [HSS.out]; congr 1; omega, Lib.hid (below_drewN HBt.out _)⟩
            · have t2 : (x != y) = true := by simpa using hxy
              rw [if_neg hxy] at HSS
              clear hxy
              go_wp2_with fail
              go_quiet (fail)
              go_wp2_with fail
              go_roundg (len - (t + 1))
              case measure => have := HJ2.out; omega
              case rel => exact ⟨t + 1, by omega, by go_num, by rw [HSS.out]; congr 1; omega, Lib.hid (below_drewN HBt.out _)⟩
          · obtain rfl : t = len := by omega
            generalize sameTo l m t = c at *
            have e9 : (t : Int) - ((t : Int) - (c : Int)) = (c : Int) := by omega
            have t9 : ((c : Int) == (c : Int)) = true := by simp
            go_wp2_with fail
            go_ret
            exact ⟨by simp [e9], HBt.out⟩

set_option maxRecDepth 100000 in
theorem lifted (os : Os) (started : os.Started) (H : Type) (enc : TypeId × Value → H) :
    ReturnsInHanded {} Try.checked os 3 .any (Rows.alikeSaysSpec.pre6 enc Try.prog Try.f3 Rows.alikeSaysRow.domain false) (Rows.alikeSaysSpec.post enc Try.prog Try.f3 false true false false) := by
  refine returnsInHanded_of_change_sized (C := Try.checked) own started (by kernel_rfl) Try.func3
    (ChangeSpec.witness6 (enc := enc) (C := Try.checked) false ⟨#[], #[.slice none 0 0, .slice none 0 0, .slice none 0 0], []⟩ 8 (by kernel_rfl) (by kernel_rfl) (by kernel_rfl) (by kernel_rfl)) ?_
  intro W base args ds gs before hval0 hW hcnd hsz0 _
  have hval : ∀ (j : Nat) t v, Try.f3.params[j]? = some t → args[j]? = some v → Value.okWide Try.prog W .any base t v := hval0
  have hW' := hW
  obtain ⟨p, q, hA0, hV, rfl, hfz, hnd⟩ := hW
  have hA : DataW.TrodAll enc Try.prog W 0 (fun _ => true) true Try.f3.params.toList args.toList ds p := hA0
  have hsz : (DataW.weightsEach Try.prog (Try.f3.params.toList ++ Rows.alikeSaysSpec.plain.varTypes Try.prog) (ds ++ gs)).all (· ≤ reachBytes) = true := hsz0
  rw [Try.params3] at hA hval hsz
  obtain ⟨v0, vs0, d0, ds0, p0, q0, hargs, rfl, rfl, h0, r0⟩ := trodAll_cons hA
  obtain ⟨v1, vs1, d1, ds1, p1, q1, rfl, rfl, rfl, h1, r1⟩ := trodAll_cons r0
  obtain ⟨v2, vs2, d2, ds2, p2, q2, rfl, rfl, rfl, h2, r2⟩ := trodAll_cons r1
  obtain ⟨rfl, rfl, rfl⟩ := trodAll_nil r2
  obtain rfl : args = #[v0, v1, v2] := by cases args; simp_all
  obtain ⟨rfl, rfl⟩ := trodVars_none hV
  have k0 := h0
  have L0 := light_of hsz (j := 0) (t := 22) (d := d0) rfl rfl
  have lt0 : ∀ x ∈ p0, x.block < W.heap.size := by obtain ⟨m, hm⟩ := k0; exact DataW.trod_lt m _ _ _ hm
  obtain ⟨a0, len0, cap0, rfl⟩ := okWide_slice Try.underlying22 (hval 0 22 v0 rfl rfl)
  obtain ⟨n0, f0⟩ := trod_slice_of Try.underlying22 h0
  have F0 := And.intro f0 L0
  obtain ⟨x0, e0, t0, b0, o0⟩ := el_slice (w := W) (k := 1) slC (fun y : Sl Int => Tab W y.a y.len y.cap 1 (y.l.map iC) ∧ y.len * 8 ≤ 140737488351232 ∧ ∀ z ∈ y.l, wfI z) (by decide) Try.underlying22 (by kernel_rfl) (el_slice (k := 1) iC wfI (by decide) Try.underlying23 (by kernel_rfl) (el_int Try.underlying3) (B := 8) (by kernel_rfl)) (B := 24) (by kernel_rfl) _ _ _ F0.1 F0.2
  simp only [slC, List.cons.injEq, Value.slice.injEq, and_true] at e0
  obtain ⟨rfl, rfl, rfl⟩ := e0
  have k1 := h1
  have L1 := light_of hsz (j := 1) (t := 23) (d := d1) rfl rfl
  have lt1 : ∀ x ∈ p1, x.block < W.heap.size := by obtain ⟨m, hm⟩ := k1; exact DataW.trod_lt m _ _ _ hm
  obtain ⟨a1, len1, cap1, rfl⟩ := okWide_slice Try.underlying23 (hval 1 23 v1 rfl rfl)
  obtain ⟨n1, f1⟩ := trod_slice_of Try.underlying23 h1
  have F1 := And.intro f1 L1
  obtain ⟨x1, e1, t1, b1, o1⟩ := el_slice (w := W) (k := 1) iC wfI (by decide) Try.underlying23 (by kernel_rfl) (el_int Try.underlying3) (B := 8) (by kernel_rfl) _ _ _ F1.1 F1.2
  simp only [slC, List.cons.injEq, Value.slice.injEq, and_true] at e1
  obtain ⟨rfl, rfl, rfl⟩ := e1
  have k2 := h2
  have L2 := light_of hsz (j := 2) (t := 23) (d := d2) rfl rfl
  have lt2 : ∀ x ∈ p2, x.block < W.heap.size := by obtain ⟨m, hm⟩ := k2; exact DataW.trod_lt m _ _ _ hm
  obtain ⟨a2, len2, cap2, rfl⟩ := okWide_slice Try.underlying23 (hval 2 23 v2 rfl rfl)
  obtain ⟨n2, f2⟩ := trod_slice_of Try.underlying23 h2
  have F2 := And.intro f2 L2
  obtain ⟨x2, e2, t2, b2, o2⟩ := el_slice (w := W) (k := 1) iC wfI (by decide) Try.underlying23 (by kernel_rfl) (el_int Try.underlying3) (B := 8) (by kernel_rfl) _ _ _ F2.1 F2.2
  simp only [slC, List.cons.injEq, Value.slice.injEq, and_true] at e2
  obtain ⟨rfl, rfl, rfl⟩ := e2
  clear hA0 hval0
  refine (walk x0 x1 x2 W t0 b0 o0 t1 b1 o1 t2 b2 o2).mono fun e W' ⟨he, hg⟩ => ?_
  subst he
  exact ⟨_, rfl, _, _, _, [], _, [], hW', trodAll_mk1 (shut_bool Try.underlying4 _), (trodAll_cons_mk (Below.trod laidOut (by kernel_rfl) (of_decide_eq_true (by kernel_rfl)) k0 hg lt0) (trodAll_cons_mk (Below.trod laidOut (by kernel_rfl) (of_decide_eq_true (by kernel_rfl)) k1 hg lt1) (trodAll_cons_mk (Below.trod laidOut (by kernel_rfl) (of_decide_eq_true (by kernel_rfl)) k2 hg lt2) trodAll_mk0))), rfl, hg.frame _, fun h => by cases h⟩

theorem over : Rows.alikeSaysRow.holds Try.pinned (OpenSpec.ofChange Rows.alikeSaysSpec) :=
  OpenClaim.holds_of_wide 3 Try.f3 rfl rfl rfl rfl rfl rfl rfl ⟨rfl, rfl, rfl, rfl, rfl⟩ rfl rfl rfl rfl rfl (by kernel_rfl) Try.func3 (by kernel_rfl)
    (of_decide_eq_true (by kernel_rfl)) (by unfold Func.isWrapper; first | (rw [if_pos (by decide +kernel)]; kernel_rfl) | (rw [if_neg (by decide +kernel)]; exact ⟨rfl, rfl⟩))
    (fun os started H enc _ => lifted os started H enc)

/-- ████ THE STATEMENT ████ -/
theorem proved : Rows.AlikeSaysSaid :=
  over
#print axioms proved
end Go.Proofs.Ytoijeafhohcbdaa.alikeSays
