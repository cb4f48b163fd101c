/-
  'Rows.TopStateCardSaid' is proved: whoever reads the trace state makes the same decision and counts with the same weight. No condition beyond the card's own (the listed variables start as the program's text lays them).
-/
import Derived.Test.YtanfkolcoaofdabDoorRows
import Derived.Test.YtanfkolcoaofdabDoorShapes
import Derived.Test.YtanfkolcoaofdabDoorCardFrame
import Derived.Test.YtanfkolcoaofdabDoorWithin
import Derived.Test.YtanfkolcoaofdabDoorOf
import Derived.Test.YtanfkolcoaofdabDoorGateKeep
import Derived.Test.YtanfkolcoaofdabDoorCountGate
import Derived.Test.YtanfkolcoaofdabDoorDigitOrder
import Derived.Test.YtanfkolcoaofdabDoorEqualInts
import Derived.Test.YtanfkolcoaofdabDoorContainsPairs
import Derived.Test.YtanfkolcoaofdabDoorStateSetAny
import Derived.Test.YtanfkolcoaofdabDoorSetTells
import Derived.Test.YtanfkolcoaofdabDoorTextBack
import Derived.Test.YtanfkolcoaofdabDoorStateWrite
import Derived.Test.YtanfkolcoaofdabDoorStateRead
import Derived.Test.YtanfkolcoaofdabDoorPairsLit
import Derived.Deep.DeepCutAuto
import Derived.Deep.LoopGhost
import Derived.WalkKit
import Derived.ProofKit
import Derived.Test.YtanfkolcoaofdabDoorCards
import Derived.Test.YtanfkolcoaofdabDoorTie
import Derived.Lay
import Derived.LaidOnce
import Derived.SevenTiedAt
import Derived.OpenShut
import Derived.ShutString
import Derived.ChangeOld
import Derived.Below
import Derived.Shelf.Vars
namespace Go.Proofs.YtanfkolcoaofdabDoor.topState
open Go.ChangeShapes Go.WideShapes Go.ChangeAt Go.RowKit
open Go.ChangeMaps (open_string shut_string)
set_option linter.unusedVariables false

theorem own : ownKnob Tryd.prog.godebug = none := by kernel_rfl
theorem laidOut : laidOutB Tryd.prog = true := by kernel_rfl

open StateMath
theorem top_order : Digit.orderOf 2 1 = [1, 0] := by decide +kernel
theorem many_one (k : Nat) : manyOf 1 (two56 - keptAt k) = 2 ^ k ∨ 56 < k := by
  by_cases hk : 56 < k
  · exact Or.inr hk
  left
  have h1 : keptAt k ≤ two56 := keptAt_le k
  have h2 := keptAt_pos k
  have h : 2 ^ k * keptAt k = two56 := by
    unfold keptAt
    rw [← Nat.pow_add, show k + (56 - k) = 56 from by omega]
    rfl
  unfold manyOf
  rw [Nat.sub_sub_self h1, Nat.mul_one, ← h, Nat.mul_div_cancel _ h2]
theorem kept_anti {a b : Nat} (h : a ≤ b) : keptAt b ≤ keptAt a := by
  unfold keptAt
  exact Nat.pow_le_pow_right (by decide) (by omega)
theorem thB_size (n : Nat) : (thB n).size ≤ 14 := by
  rw [thB_eq, ByteArray.size_extract, rvB_size]
  omega
set_option maxRecDepth 100000 in
set_option maxHeartbeats 1000000 in
theorem begun_any (w : World) : Calls Tryd.prog 7 #[] w fun e w' => e = .returned (.bool true) ∧ Below w.heap.size w w' := by
  have C0 := order_ok 2 1 (by omega) (by decide) w
  rw [top_order] at C0
  have C0 := Lib.hid C0
  go_enter Tryd.func7, Tryd.ntmps7
  go_wp2_with fail
  refine C0.out.mono ?_
  rintro e v1 ⟨s1, rfl, hO1, hb1⟩
  clear C0
  obtain ⟨a1, cap1, rfl, hT1⟩ := hO1.tab
  have E1 := Lib.hid (equal_ints a1 (some ⟨v1.heap.size, 0, none⟩) 2 cap1 2 2 [1, 0] [1, 0] (v1.alloc (.cells #[.int .i64 1, .int .i64 0] 3))
    (hT1.below ((Below.refl _ _).alloc (Nat.le_refl _) _)) (tab_lit _ _ 1 2 ([(1 : Int), 0].map iC) #[.int .i64 1, .int .i64 0] rfl rfl (rows_of iC_len _) (by decide) _ rfl) true (by simp))
  have HB1 := Lib.hid (below_on hb1 ((Below.refl v1.heap.size v1).alloc (Nat.le_refl _) (.cells #[.int .i64 1, .int .i64 0] 3)))
  clear hO1 hT1 hb1
  go_wp2_with fail
  refine E1.out.mono ?_
  rintro e v2 ⟨rfl, hb2⟩
  go_wp2
  go_ret
  exact ⟨rfl, below_on HB1.out hb2⟩

set_option maxRecDepth 100000 in
set_option maxHeartbeats 2000000 in
theorem walk (x0 : ByteArray) (x1 : Int) (x2 : Int) (w : World) (w0 : x0.size ≤ 140737488351232) (w1 : (Lit.int .i64 x1).wf = true) (w2 : (Lit.int .i64 x2).wf = true) (m : Int) (hm : w.cell? ⟨2, 0, none⟩ = some (.int .i64 m)) (hG : 2 < w.heap.size) :
    Calls Tryd.prog 3 #[.string x0, .int .i64 x1, .int .i64 x2] w fun e w' => e = .returned (.bool true) ∧ Below w.heap.size w w' := by
  have b1 := wf_i64 w1
  have b2 := wf_i64 w2
  have HMX : Hid (∀ W, Below w.heap.size w W → W.cell? ⟨2, 0, none⟩ = some (.int .i64 m) ∧ 2 < W.heap.size) := Lib.hid (fun W hW => ⟨(hW.cell (p := ⟨2, 0, none⟩) hG).trans hm, Nat.lt_of_lt_of_le hG hW.size⟩)
  have C0 := Lib.hid (begun_any w)
  have d1 := withI_bd x1 21 (by omega)
  have d2 := withI_bd x2 21 (by omega)
  clear hm hG w1 w2
  go_enter Tryd.func3, Tryd.ntmps3
  go_wp2_with fail
  refine C0.out.mono ?_
  rintro e v1 ⟨rfl, hb1⟩
  have HB1 := Lib.hid hb1
  clear C0 hb1
  go_upto_region 3 with fail
  go_cut [0] (fun s wx => ∃ q : ByteArray, s = .string q ∧ q.size ≤ 200 ∧ wx = v1)
  case first =>
    by_cases h200 : x0.size ≤ 200
    · go_wp2_with fail
      go_meet
      case rel => exact ⟨_, rfl, by rw [ByteArray.size_extract]; omega, rfl⟩
    · have h200' : 200 < x0.size := by omega
      clear h200
      go_wp2_with fail
      go_meet
      case rel => exact ⟨_, rfl, by rw [ByteArray.size_extract]; omega, rfl⟩
  case rest =>
  obtain ⟨q, rfl, hq, rfl⟩ := hcut
  go_wp2_with fail
  refine (within_int _ _ _ b1 (by omega) (by omega)).mono ?_
  rintro e v2 ⟨rfl, rfl⟩
  go_wp2_with fail
  refine (within_int _ _ _ b2 (by omega) (by omega)).mono ?_
  rintro e v2 ⟨rfl, rfl⟩
  generalize withI x1 21 = k1 at *
  generalize withI x2 21 = k2 at *
  obtain ⟨k1, rfl⟩ := Int.eq_ofNat_of_zero_le d1.1
  obtain ⟨k2, rfl⟩ := Int.eq_ofNat_of_zero_le d2.1
  have hk1 : k1 ≤ 20 := by omega
  have hk2 : k2 ≤ 20 := by omega
  clear d1 d2 b1 b2
  have C1 := Lib.hid (of_small q wc hq)
  have hR := ofI_bd q.data.toList
  have C2 := Lib.hid (level_ok k1 hk1)
  have C3 := Lib.hid (level_ok k2 hk2)
  have hT1 := keptAt_pos k1
  have hT2 := keptAt_le k1
  have hU1 := keptAt_pos k2
  have hU2 := keptAt_le k2
  have HMO := Lib.hid ((many_one k1).resolve_right (by omega))
  have HAN : Hid (k2 ≤ k1 → (two56 - keptAt k2) ≤ (two56 - keptAt k1)) := Lib.hid (fun h => by have := kept_anti h; omega)
  obtain ⟨T, hT⟩ : ∃ T, two56 - keptAt k1 = T := ⟨_, rfl⟩
  obtain ⟨U, hU⟩ : ∃ U, two56 - keptAt k2 = U := ⟨_, rfl⟩
  have hTb : T < 72057594037927936 := by rw [← hT, two56_val]; omega
  have hUb : U < 72057594037927936 := by rw [← hU, two56_val]; omega
  rw [hT] at C2 HMO HAN
  rw [hU] at C3 HAN
  clear hT hU hT1 hT2 hU1 hU2
  generalize ofI q.data.toList = R at *
  have K1 := Lib.hid (keep_ok (T : Int) R (by omega) (by omega) hR.1 hR.2)
  have K2 := Lib.hid (keep_ok (U : Int) R (by omega) (by omega) hR.1 hR.2)
  have hmk : mkOk ⟨(T : Int), R, true, true⟩ = true := by
    unfold mkOk
    simp only [Bool.and_eq_true, decide_eq_true_eq]
    exact ⟨⟨by omega, by omega⟩, hR.1, hR.2⟩
  have hset : setOf [] ⟨(T : Int), R, true, true⟩ = ([thP ⟨(T : Int), R, true, true⟩, rvP ⟨(T : Int), R, true, true⟩], 0) := setOf_ok (by decide) hmk (show 2 ≤ 40 by omega)
  have hchk : check [thP ⟨(T : Int), R, true, true⟩, rvP ⟨(T : Int), R, true, true⟩] = 0 := check_set [] ⟨(T : Int), R, true, true⟩ (by decide) (show 2 ≤ 40 by omega)
  have hmark : markOf [thP ⟨(T : Int), R, true, true⟩, rvP ⟨(T : Int), R, true, true⟩] = (⟨(T : Int), R, true, true⟩, 0) := mark_set [] ⟨(T : Int), R, true, true⟩ (by decide) hmk (show 2 ≤ 40 by omega)
  have hthP : thP ⟨(T : Int), R, true, true⟩ = (⟨#[116, 104]⟩, thB T) := rfl
  have hsz1 : (thP ⟨(T : Int), R, true, true⟩).1.size = 2 := rfl
  have hsz2 : (thP ⟨(T : Int), R, true, true⟩).2.size ≤ 14 := thB_size _
  have hsz3 : (rvP ⟨(T : Int), R, true, true⟩).1.size = 2 := rfl
  have hsz4 : (rvP ⟨(T : Int), R, true, true⟩).2.size = 14 := rvB_size _
  generalize thP ⟨(T : Int), R, true, true⟩ = P1 at *
  generalize rvP ⟨(T : Int), R, true, true⟩ = P2 at *
  have htl : tlen [P1, P2] ≤ 200 := by
    unfold tlen sumT
    simp
    omega
  have hwr : writeOf [P1, P2] = (textB [P1, P2], 0) := by unfold writeOf; rw [if_pos hchk, if_neg (by omega)]
  have hrd := read_text [P1, P2] hchk htl
  have hts : (textB [P1, P2]).size ≤ maxLen := by rw [textB_size]; unfold maxLen; omega
  have hok : ∀ p ∈ [P1, P2], p.1.size ≤ 140737488351232 ∧ p.2.size ≤ 140737488351232 := by intro p hp; simp at hp; rcases hp with rfl | rfl <;> omega
  have hok2 : ∀ p ∈ [P1, P2], p.1.size ≤ maxLen ∧ p.2.size ≤ maxLen := by intro p hp; have := hok p hp; unfold maxLen; omega
  have HP := Lib.hid (And.intro hset (And.intro hmark (And.intro hwr (And.intro hrd (And.intro hts (And.intro hok (And.intro hok2 hthP)))))))
  have HTH := Lib.hid (fun W => th_int (T : Int) W (by omega) (by omega))
  have hpw : 2 ^ k1 ≤ 2 ^ 20 := Nat.pow_le_pow_right (by decide) hk1
  rw [show (2 : Nat) ^ 20 = 1048576 from by decide] at hpw
  have HCN : Hid (∀ W, Calls Tryd.prog 16 #[.int .i64 1, .int .i64 (T : Nat)] W fun e w' => e = .returned (.tuple #[.int .i64 ((2 ^ k1 : Nat) : Int), .int .i64 0]) ∧ Below W.heap.size W w') := Lib.hid (fun W => by
    have h := count_ok 1 T (by omega) hTb (by rw [HMO.out]; omega) W
    rw [HMO.out] at h
    exact h)
  have e6 := pow64 k1 (by omega)
  clear hmk hset hchk hmark hthP hsz1 hsz2 hsz3 hsz4 htl hwr hrd hts hok hok2 HMO
  go_wp2_with fail
  refine C1.out.mono ?_
  rintro e v2 ⟨rfl, rfl⟩
  go_wp2_with fail
  refine (C2.out _).mono ?_
  rintro e v2 ⟨rfl, rfl⟩
  go_wp2_with fail
  refine (K1.out _).mono ?_
  rintro e v2 ⟨rfl, rfl⟩
  have S1x := set_any none 0 0 [] (T : Int) R true true wc ⟨rfl, Nat.le_refl _, by decide, fun _ => rfl, fun h => by omega⟩ (fun p hp => by cases hp)
  rw [HP.out.1] at S1x
  have S1 := Lib.hid S1x
  clear C1 C2 S1x
  go_wp2_with fail
  refine S1.out.mono ?_
  rintro e v2 ⟨s2, rfl, hO2, hb2⟩
  obtain ⟨a2, cap2, rfl, hT2⟩ := hO2.tab
  have HB2 := Lib.hid (below_on HB1.out hb2)
  have HT2 := Lib.hid hT2
  have W1x := write_any a2 2 cap2 [P1, P2] v2 hT2 HP.out.2.2.2.2.2.1
  rw [HP.out.2.2.1] at W1x
  have W1 := Lib.hid W1x
  clear S1 hO2 hT2 hb2 HB1 W1x
  go_wp2_with fail
  refine W1.out.mono ?_
  rintro e v3 ⟨rfl, hb3⟩
  have HB3 := Lib.hid (below_on HB2.out hb3)
  have HT3 := Lib.hid (HT2.out.below hb3)
  have hms := HMX.out v3 HB3.out
  have R1x := read_any (textB [P1, P2]) m v3 HP.out.2.2.2.2.1 hms.1 hms.2
  rw [HP.out.2.2.2.1] at R1x
  have R1 := Lib.hid R1x
  clear W1 hb3 HB2 HT2 hms R1x HMX
  generalize textB [P1, P2] = TX at *
  go_wp2_with fail
  refine R1.out.mono ?_
  rintro e v4 ⟨s4, rfl, hO4, hb4⟩
  obtain ⟨a4, cap4, rfl, hT4⟩ := hO4.tab
  have HB4 := Lib.hid (below_on HB3.out hb4)
  have HT4 := Lib.hid (HT3.out.below hb4)
  have M1x := mark_any a4 2 cap4 [P1, P2] v4 hT4 HP.out.2.2.2.2.2.2.1
  rw [HP.out.2.1] at M1x
  have M1 := Lib.hid M1x
  clear R1 hO4 hT4 hb4 HB3 HT3 M1x
  go_wp2_with fail
  refine M1.out.mono ?_
  rintro e v5 ⟨rfl, hb5⟩
  have HB5 := Lib.hid (below_on HB4.out hb5)
  have HT5 := Lib.hid (HT4.out.below hb5)
  clear M1 hb5 HB4 HT4
  have HX5 : Hid ((v5.alloc (.cells (mkC ⟨(T : Int), R, true, true⟩) 34)).heap[v5.heap.size]? = some (.cells (mkC ⟨(T : Int), R, true, true⟩) 34 (0, 0))) := (MapKept.heap_alloc _ _).1
  have HBA : Hid (Below v5.heap.size v5 (v5.alloc (.cells (mkC ⟨(T : Int), R, true, true⟩) 34))) := Lib.hid ((Below.refl _ _).alloc (Nat.le_refl _) _)
  have HB6 := Lib.hid (below_on HB5.out HBA.out)
  have HT6 := Lib.hid (HT5.out.below HBA.out)
  clear HB5 HT5 HBA
  obtain ⟨c0, c1, c2, c3, f0, f1, f2, f3⟩ := four_of HX5.out
  unfold markV mkC
  obtain ⟨bi, hbi⟩ : ∃ b, decide ((T : Int) ≤ R) = b := ⟨_, rfl⟩
  obtain ⟨bu, hbu⟩ : ∃ b, decide ((U : Int) ≤ R) = b := ⟨_, rfl⟩
  rw [hbi] at K1 ⊢
  rw [hbu] at K2
  have HBB : Hid (k2 ≤ k1 → bi = true → bu = true) := Lib.hid (fun h1 h2 => by
    have h3 := HAN.out h1
    rw [← hbi, decide_eq_true_eq] at h2
    rw [← hbu, decide_eq_true_eq]
    omega)
  clear hbi hbu HAN
  generalize hPW : 2 ^ k1 = PW at *
  clear hPW
  go_wp2_with fail
  refine (K1.out _).mono ?_
  rintro e v6 ⟨rfl, rfl⟩
  go_wp2_with fail
  refine (HCN.out _).mono ?_
  rintro e v7 ⟨rfl, hb7⟩
  have HX7 : Hid (v7.heap[v5.heap.size]? = some (.cells (mkC ⟨(T : Int), R, true, true⟩) 34 (0, 0))) := Lib.hid ((hb7.block _ (by show v5.heap.size < (v5.alloc (.cells (mkC ⟨(T : Int), R, true, true⟩) 34)).heap.size; simp)).trans HX5.out)
  have HB7 := Lib.hid (below_on HB6.out hb7)
  have HT7 := Lib.hid (HT6.out.below hb7)
  clear c0 c1 c2 c3 f0 f1 f2 f3 HX5 hb7 HB6 HT6 HCN K1
  obtain ⟨c0, c1, c2, c3, f0, f1, f2, f3⟩ := four_of HX7.out
  go_wp2_with fail
  refine (C3.out _).mono ?_
  rintro e v8 ⟨rfl, rfl⟩
  go_wp2_with fail
  refine (K2.out _).mono ?_
  rintro e v8 ⟨rfl, rfl⟩
  clear C3 K2
  have HZ : Hid (∀ k, k < 11 → (v7.alloc (.cells #[.int .i64 0, .int .i64 0, .int .i64 0, .int .i64 0, .int .i64 0, .int .i64 0, .int .i64 0, .int .i64 0, .int .i64 0, .int .i64 0, .int .i64 0] 24)).cell? ⟨v7.heap.size, k, none⟩ = some (.int .i64 0)) := Lib.hid (fun k hk => cell_blk (MapKept.heap_alloc _ _).1 (by
    match k, hk with
    | 0, _ => rfl
    | 1, _ => rfl
    | 2, _ => rfl
    | 3, _ => rfl
    | 4, _ => rfl
    | 5, _ => rfl
    | 6, _ => rfl
    | 7, _ => rfl
    | 8, _ => rfl
    | 9, _ => rfl
    | 10, _ => rfl))
  have HBE : Hid (Below v7.heap.size v7 (v7.alloc (.cells #[.int .i64 0, .int .i64 0, .int .i64 0, .int .i64 0, .int .i64 0, .int .i64 0, .int .i64 0, .int .i64 0, .int .i64 0, .int .i64 0, .int .i64 0] 24))) := Lib.hid ((Below.refl _ _).alloc (Nat.le_refl _) _)
  clear c0 c1 c2 c3 f0 f1 f2 f3
  go_wp2
  go_loopg [121] 11 (fun g i wr => ∃ k : Nat, k + g = 11 ∧ i = .int .i64 k ∧ wr = v7.alloc (.cells #[.int .i64 0, .int .i64 0, .int .i64 0, .int .i64 0, .int .i64 0, .int .i64 0, .int .i64 0, .int .i64 0, .int .i64 0, .int .i64 0, .int .i64 0] 24))
  case atStart => exact ⟨0, by omega, rfl, rfl⟩
  case round =>
    obtain ⟨k, hk0, rfl, hwr⟩ := hrel
    have HJ := Lib.hid hk0
    have hk : k ≤ 11 := by omega
    clear hk0
    rw [← hwr] at HZ HBE
    have HWR := Lib.hid hwr
    clear hwr
    by_cases hlt : k < 11
    · have z0 := HZ.out k hlt
      go_wp2
      go_roundg (11 - (k + 1))
      case measure => have := HJ.out; omega
      case rel => exact ⟨k + 1, by omega, by go_num, HWR.out⟩
    · have hk11 : 11 ≤ k := by omega
      clear hlt HZ
      go_wp2_with fail
      refine (HTH.out _).mono ?_
      rintro e v9 ⟨rfl, hb9⟩
      have hb79 := below_on HBE.out hb9
      have hlt7 : v5.heap.size < v7.heap.size := (Array.getElem?_eq_some_iff.1 HX7.out).1
      have HX9 : Hid (v9.heap[v5.heap.size]? = some (.cells (mkC ⟨(T : Int), R, true, true⟩) 34 (0, 0))) := Lib.hid ((hb79.block _ hlt7).trans HX7.out)
      have HB9 := Lib.hid (below_on HB7.out hb79)
      have HT9 := Lib.hid (HT7.out.below hb79)
      obtain ⟨c0, c1, c2, c3, f0, f1, f2, f3⟩ := four_of HX9.out
      have N1x := contains_first a2 2 cap2 [P1, P2] P1 v9 HT9.out rfl
      rw [HP.out.2.2.2.2.2.2.2] at N1x
      have N1 := Lib.hid N1x
      rw [show ((T : Nat) : Int).toNat = T from Int.toNat_natCast T]
      have q1 : ((T : Int) == (T : Int)) = true := by simp
      have q2 : ((R : Int) == R) = true := by simp
      have q3 : (bi == bi) = true := by cases bi <;> rfl
      have q4 : ((PW : Int) == (PW : Int)) = true := by simp
      clear hb9 hb79 HBE HX7 HX9 HB7 HT7 HT9 N1x HTH hlt7
      generalize thB T = tb at *
      by_cases hA : k1 < k2
      · have q5 : decide ((k1 : Int) < (k2 : Int)) = true := decide_eq_true (by omega)
        clear HBB HP
        go_wp2_with fail
        refine N1.out.mono ?_
        rintro e v10 ⟨rfl, hb10⟩
        go_wp2
        go_ret
        exact ⟨rfl, below_on HB9.out hb10⟩
      · have hA' : k2 ≤ k1 := by omega
        have q5 : decide ((k1 : Int) < (k2 : Int)) = false := decide_eq_false (by omega)
        have hbb := HBB.out hA'
        clear hA HBB HP
        cases bi
        · clear hbb
          go_wp2_with fail
          refine N1.out.mono ?_
          rintro e v10 ⟨rfl, hb10⟩
          go_wp2
          go_ret
          exact ⟨rfl, below_on HB9.out hb10⟩
        · obtain rfl := hbb rfl
          go_wp2_with fail
          refine N1.out.mono ?_
          rintro e v10 ⟨rfl, hb10⟩
          go_wp2
          go_ret
          exact ⟨rfl, below_on HB9.out hb10⟩

set_option maxRecDepth 100000 in
theorem lifted (os : Os) (started : os.Started) (H : Type) (enc : TypeId × Value → H) :
    ReturnsInHanded {} Tryd.checked os 3 .any (fun w args => (Rows.topStateSpec.pre enc Tryd.prog Tryd.f3 Rows.topStateRow.domain false w args ∧ laidMetH Tryd.prog Rows.topStateRow.laid w) ∧ sizedMet enc Tryd.prog Tryd.f3 (OpenSpec.ofChange Rows.topStateSpec) false w args) (Rows.topStateSpec.post enc Tryd.prog Tryd.f3 false true false false) := by
  refine handed_and_shaped (C := Tryd.checked) (X := fun w _ => laidMetH Tryd.prog Rows.topStateRow.laid w) (fun _ _ _ hh h => h.of_heap hh) own started (by kernel_rfl) Tryd.func3
    (ChangeSpec.witness_shaped (enc := enc) (C := Tryd.checked) (os := os) (X := fun w _ => laidMetH Tryd.prog Rows.topStateRow.laid w) false (World.laidAll Tryd.prog os Rows.topStateRow.laid) #[.string ByteArray.empty, .int .i64 0, .int .i64 0] 8 (World.laidAll_os _ _ _)
      (World.shaped_of_ZipB (by kernel_rfl) (by kernel_rfl)) (by kernel_rfl) (by kernel_rfl) (by kernel_rfl)
      (by rw [MakeChecks.laidMetH_plain _ _ _ (by kernel_rfl)]; exact laidMet_laidAll _ (by kernel_rfl) (by kernel_rfl))) ?_
  intro W base args ds gs before hval0 hW hcnd hsz0 hL hsh _
  have hval : ∀ (j : Nat) t v, Tryd.f3.params[j]? = some t → args[j]? = some v → Value.okWide Tryd.prog W .any base t v := hval0
  have hW' := hW
  obtain ⟨p, q, hA0, hV, rfl, hfz, hnd⟩ := hW
  have hA : DataW.TrodAll enc Tryd.prog W 0 (fun _ => true) true Tryd.f3.params.toList args.toList ds p := hA0
  have hsz : (DataW.weightsEach Tryd.prog (Tryd.f3.params.toList ++ Rows.topStateSpec.plain.varTypes Tryd.prog) (ds ++ gs)).all (· ≤ reachBytes) = true := hsz0
  rw [Tryd.params3] at hA hval hsz
  obtain ⟨v0, vs0, d0, ds0, p0, q0, hargs, rfl, rfl, h0, r0⟩ := trodAll_cons hA
  obtain ⟨v1, vs1, d1, ds1, p1, q1, rfl, rfl, rfl, h1, r1⟩ := trodAll_cons r0
  obtain ⟨v2, vs2, d2, ds2, p2, q2, rfl, rfl, rfl, h2, r2⟩ := trodAll_cons r1
  obtain ⟨rfl, rfl, rfl⟩ := trodAll_nil r2
  obtain rfl : args = #[v0, v1, v2] := by cases args; simp_all
  obtain ⟨rfl, rfl⟩ := trodVars_none hV
  have k0 := h0
  have L0 := light_of hsz (j := 0) (t := 9) (d := d0) rfl rfl
  have lt0 : ∀ x ∈ p0, x.block < W.heap.size := by obtain ⟨m, hm⟩ := k0; exact DataW.trod_lt m _ _ _ hm
  obtain ⟨x0, rfl, rfl, rfl, _⟩ := open_string Tryd.underlying9 (hval 0 9 v0 rfl rfl) h0
  have w0 : x0.size ≤ 140737488351232 := L0 x0.size (by simp [DataW.weights])
  have k1 := h1
  have L1 := light_of hsz (j := 1) (t := 3) (d := d1) rfl rfl
  have lt1 : ∀ x ∈ p1, x.block < W.heap.size := by obtain ⟨m, hm⟩ := k1; exact DataW.trod_lt m _ _ _ hm
  obtain ⟨x1, rfl, rfl, rfl, w1⟩ := open_int Tryd.underlying3 (hval 1 3 v1 rfl rfl) h1
  have k2 := h2
  have L2 := light_of hsz (j := 2) (t := 3) (d := d2) rfl rfl
  have lt2 : ∀ x ∈ p2, x.block < W.heap.size := by obtain ⟨m, hm⟩ := k2; exact DataW.trod_lt m _ _ _ hm
  obtain ⟨x2, rfl, rfl, rfl, w2⟩ := open_int Tryd.underlying3 (hval 2 3 v2 rfl rfl) h2
  clear hA0 hval0
  obtain ⟨m, hm⟩ := cell_of_shapedOpen_int (g := 2) (zero := #[.int .i64 0]) hsh (of_decide_eq_true (by kernel_rfl)) (by kernel_rfl) (by kernel_rfl) (by kernel_rfl) (by kernel_rfl) Tryd.underlying3
  have hG : 2 < W.heap.size := World.block_lt_of_cell? _ _ hm
  refine (walk x0 x1 x2 W w0 w1 w2 m hm hG).mono fun e W' ⟨he, hg⟩ => ?_
  subst he
  exact ⟨_, rfl, _, _, _, [], _, [], hW', trodAll_mk1 (shut_bool Tryd.underlying4 _), (trodAll_cons_mk (Below.trod laidOut (by kernel_rfl) (of_decide_eq_true (by kernel_rfl)) k0 hg lt0) (trodAll_cons_mk (Below.trod laidOut (by kernel_rfl) (of_decide_eq_true (by kernel_rfl)) k1 hg lt1) (trodAll_cons_mk (Below.trod laidOut (by kernel_rfl) (of_decide_eq_true (by kernel_rfl)) k2 hg lt2) trodAll_mk0))), rfl, hg.frame _, fun h => by cases h⟩

theorem over : Rows.topStateRow.holds Tryd.pinned (OpenSpec.ofChange Rows.topStateSpec) :=
  OpenClaim.holds_of_wide 3 Tryd.f3 rfl rfl rfl rfl rfl rfl rfl ⟨rfl, rfl, rfl, rfl, rfl⟩ rfl rfl rfl rfl rfl (by kernel_rfl) Tryd.func3 (by kernel_rfl)
    (of_decide_eq_true (by kernel_rfl)) (by unfold Func.isWrapper; first | (rw [if_pos (by decide +kernel)]; kernel_rfl) | (rw [if_neg (by decide +kernel)]; exact ⟨rfl, rfl⟩))
    (fun os started H enc _ => lifted os started H enc)

/-- ████ THE CARD ████ -/
theorem proved : Rows.TopStateCardSaid :=
  Claim7.holds_tied_plain_at .later [] _ _ _ _ over (fun _ h => by cases h) (by kernel_rfl) (fun _ h => by cases h) topState_row_tie rfl ⟨rfl, rfl⟩ (by kernel_rfl) rfl
    (fun f fn hf hfn => by
      obtain rfl : f = 3 := Option.some.inj ((show Tryd.prog.funcNamed "cullender/cultop.TopState" = some 3 by kernel_rfl).symm.trans hf) |>.symm
      obtain rfl : fn = Tryd.f3 := (Option.some.inj (Tryd.func3.symm.trans hfn)).symm
      exact ⟨by kernel_rfl, fun j t ht => by
        rw [Tryd.params3] at ht
        have hm : t ∈ [9, 3] := by have := Array.mem_of_getElem? ht; simp at this ⊢; first | omega | exact this | (rcases this with h | h <;> simp [h]) | (rcases this with h | h | h <;> simp [h])
        have hall : ([9, 3].all fun u => !Tryd.prog.wantsStandIn u) = true := by kernel_rfl
        exact (show Tryd.prog.wantsStandIn t = false by simpa using List.all_eq_true.1 hall t hm)⟩)
    (by kernel_rfl)
#print axioms proved
end Go.Proofs.YtanfkolcoaofdabDoor.topState
