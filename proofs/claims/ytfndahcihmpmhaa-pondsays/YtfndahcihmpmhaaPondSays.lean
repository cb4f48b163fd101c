/-
  'Rows.PondSaysSaid' is proved: Check and Put of reservoirs answer what the document says, for all arguments. No condition.
-/
import Derived.Test.YtfndahcihmpmhaaRows
import Derived.Test.YtfndahcihmpmhaaShapes
import Derived.Test.YtfndahcihmpmhaaRefPond
import Derived.Test.YtfndahcihmpmhaaEqualInts
import Derived.Test.YtfndahcihmpmhaaLit
import Derived.Deep.DeepCutAuto
import Derived.Deep.RegionWith
import Derived.WalkKit
import Derived.ProofKit
import Derived.OpenShut
import Derived.ShutString
import Derived.ChangeOld
import Derived.Below
namespace Go.Proofs.Ytfndahcihmpmhaa.pondSays
open Go.ChangeShapes Go.WideShapes Go.ChangeAt Go.RowKit
open Go.ChangeMaps (open_string shut_string)
set_option linter.unusedVariables false

theorem own : ownKnob Try.prog.godebug = none := by kernel_rfl
theorem laidOut : laidOutB Try.prog = true := by kernel_rfl

theorem pond_zero : pondE 0 0 0 = 1 := by decide

set_option maxRecDepth 100000 in
set_option maxHeartbeats 2000000 in
theorem walk (x0_0 : Int) (x0_1 : Int) (x0_2 : Sl Int) (x1 : Int) (x2 : Int) (w : World) (w0_0 : (Lit.int .i64 x0_0).wf = true) (w0_1 : (Lit.int .i64 x0_1).wf = true) (t0_2 : Tab w x0_2.a x0_2.len x0_2.cap 1 (x0_2.l.map iC)) (b0_2 : x0_2.len * 8 ≤ 140737488351232) (o0_2 : ∀ z ∈ x0_2.l, wfI z) (w1 : (Lit.int .i64 x1).wf = true) (w2 : (Lit.int .i64 x2).wf = true) :
    Calls Try.prog 3 #[.agg #[.int .i64 x0_0, .int .i64 x0_1, .slice x0_2.a x0_2.len x0_2.cap], .int .i64 x1, .int .i64 x2] w fun e w' => e = .returned (.bool true) ∧ Below w.heap.size w w' := by
  obtain ⟨a, len, cap, L⟩ := x0_2
  have HT := Lib.hid t0_2
  have d2 := wf_i64 w2
  clear t0_2 b0_2 o0_2 w0_0 w0_1 w1 w2
  have HZ := Lib.hid (fun W => pcheck_any 0 0 none 0 0 W)
  rw [pond_zero] at HZ
  have HR := Lib.hid (fun W => refPond_any x0_0 x0_1 a len cap W)
  have HC := Lib.hid (fun W => pcheck_any x0_0 x0_1 a len cap W)
  have hb0 : Below w.heap.size w (w.alloc (.cells #[.int .i64 x0_0, .int .i64 x0_1, .slice a len cap] 24)) := (Below.refl _ _).alloc (Nat.le_refl _) _
  have HB0 := Lib.hid hb0
  have hx0 : (w.alloc (.cells #[.int .i64 x0_0, .int .i64 x0_1, .slice a len cap] 24)).heap[w.heap.size]? = some (.cells #[.int .i64 x0_0, .int .i64 x0_1, .slice a len cap] 24 (0, 0)) := (MapKept.heap_alloc w _).1
  have HX0 := Lib.hid hx0
  have HT0 := Lib.hid (HT.out.below hb0)
  clear hb0 hx0 HT
  unfold pondV at HZ HR HC
  by_cases hE : putE x0_0 x0_1 len x2 = 0
  · have h0 : pondE x0_0 x0_1 len = 0 := Classical.byContradiction fun h => h (by have := hE; unfold putE at this; rw [if_pos h] at this; exact this)
    have hS : x0_1 ≠ 1000000000000 := fun h => by have := hE; unfold putE at this; rw [if_neg (fun h => h h0), if_pos h] at this; cases this
    have hd : 0 ≤ x2 ∧ x2 ≤ x0_1 := Classical.byContradiction fun h => by have := hE; unfold putE at this; rw [if_neg (fun h => h h0), if_neg hS, if_pos (by omega)] at this; cases this
    obtain ⟨k1, k2, s1, s2, hn⟩ := pondE_zero h0
    obtain ⟨k, rfl⟩ := Int.eq_ofNat_of_zero_le (show 0 ≤ x0_0 by omega)
    obtain ⟨d, rfl⟩ := Int.eq_ofNat_of_zero_le hd.1
    have CP := Lib.hid (put_ok k x0_1 a len cap L x1 d (w.alloc (.cells #[.int .i64 k, .int .i64 x0_1, .slice a len cap] 24)) HT0.out hE)
    have CM := Lib.hid (fun (W : World) (hT : Tab W a len cap 1 (L.map iC)) => came_ok k x0_1 a len cap L x1 d W hT h0)
    have HS := Lib.hid (fun (W : World) b la ca b' lb cb => samePond_yes k (x0_1 + 1) b b' la ca lb cb (pondL k x0_1 L x1 d) W)
    unfold pondV at CP CM HS
    rw [h0] at HR HC
    have t1 : (x0_1 == 1000000000000) = false := by simpa using hS
    have hd1 := hd.1
    have hd2 := hd.2
    clear hE h0 hn hS hd
    generalize pondL k x0_1 L x1 d = P at *
    go_enter Try.func3, Try.ntmps3
    go_wp2_with fail
    refine CP.out.mono ?_
    rintro e w1 ⟨v1, rfl, hO1, hb1⟩
    obtain ⟨q1, cap1, rfl, hT1⟩ := hO1.tab
    rw [List.length_map] at hT1 ⊢
    have HT1 := Lib.hid hT1
    have HTa := Lib.hid (HT0.out.below hb1)
    clear hT1 hO1
    have kx1 := keep_blk hb1 HX0.out
    have HY1 : Hid ((w1.alloc (.cells #[.int .i64 k, .int .i64 (x0_1 + 1), .slice q1 P.length cap1] 24)).heap[w1.heap.size]? = some (.cells #[.int .i64 k, .int .i64 (x0_1 + 1), .slice q1 P.length cap1] 24 (0, 0))) := Lib.hid (MapKept.heap_alloc w1 _).1
    have HX1 : Hid ((w1.alloc (.cells #[.int .i64 k, .int .i64 (x0_1 + 1), .slice q1 P.length cap1] 24)).heap[w.heap.size]? = some _) := Lib.hid (keep_blk ((Below.refl _ _).alloc (Nat.le_refl _) _) kx1)
    have HQ1 := Lib.hid (HT1.out.below ((Below.refl _ _).alloc (Nat.le_refl _) (.cells #[.int .i64 k, .int .i64 (x0_1 + 1), .slice q1 P.length cap1] 24)))
    have HA1 := Lib.hid (HTa.out.below ((Below.refl _ _).alloc (Nat.le_refl _) (.cells #[.int .i64 k, .int .i64 (x0_1 + 1), .slice q1 P.length cap1] 24)))
    have HB1 : Hid (Below w.heap.size w (w1.alloc (.cells #[.int .i64 k, .int .i64 (x0_1 + 1), .slice q1 P.length cap1] 24))) := Lib.hid (below_on (below_on HB0.out hb1) ((Below.refl _ _).alloc (Nat.le_refl _) _))
    obtain ⟨⟨c0, c1, c2⟩, f0, f1, f2⟩ := pond_cells kx1
    obtain ⟨⟨d0, d1, d2⟩, g0, g1, g2⟩ := pond_cells HX1.out
    clear hb1 kx1
    go_wp2_with fail
    refine (HR.out _).mono ?_
    rintro e w2 ⟨rfl, hb2⟩
    have HX2 := Lib.hid (keep_blk hb2 HX1.out)
    have HY2 := Lib.hid (keep_blk hb2 HY1.out)
    have HQ2 := Lib.hid (HQ1.out.below hb2)
    have HA2 := Lib.hid (HA1.out.below hb2)
    have HB2 := Lib.hid (below_on HB1.out hb2)
    clear HQ1 HA1
    clear hb2 HX1 HY1 HB1 c0 c1 c2 f0 f1 f2 d0 d1 d2 g0 g1 g2
    obtain ⟨⟨c0, c1, c2⟩, f0, f1, f2⟩ := pond_cells HX2.out
    go_wp2_with fail
    refine (HC.out _).mono ?_
    rintro e w3 ⟨rfl, hb3⟩
    have HX3 := Lib.hid (keep_blk hb3 HX2.out)
    have HY3 := Lib.hid (keep_blk hb3 HY2.out)
    have HQ3 := Lib.hid (HQ2.out.below hb3)
    have HA3 := Lib.hid (HA2.out.below hb3)
    have HB3 := Lib.hid (below_on HB2.out hb3)
    clear HQ2 HA2
    clear hb3 HX2 HY2 HB2 c0 c1 c2 f0 f1 f2
    go_wp2_with fail
    refine (HZ.out _).mono ?_
    rintro e w4 ⟨rfl, hb4⟩
    have HX4 := Lib.hid (keep_blk hb4 HX3.out)
    have HY4 := Lib.hid (keep_blk hb4 HY3.out)
    have HQ4 := Lib.hid (HQ3.out.below hb4)
    have HA4 := Lib.hid (HA3.out.below hb4)
    have HB4 := Lib.hid (below_on HB3.out hb4)
    clear HQ3 HA3
    clear hb4 HX3 HY3 HB3
    obtain ⟨⟨c0, c1, c2⟩, f0, f1, f2⟩ := pond_cells HX4.out
    obtain ⟨⟨d0, d1, d2⟩, g0, g1, g2⟩ := pond_cells HY4.out
    go_wp2_with fail
    go_region_with (first | (go_at_call 17; refine Calls.mono (CM.out _ ?_) ?_; (first | exact HA4.out | exact HA4.out.below ((Below.refl _ _).drew)); rintro e w6 ⟨v6, rfl, hO6, hb6⟩; obtain ⟨q6, cap6, rfl, hT6⟩ := hO6.tab; obtain ⟨⟨i0, i1, i2⟩, j0, j1, j2⟩ := pond_cells (keep_blk hb6 HY4.out); rw [List.length_map] at hT6 ⊢) | (go_at_call 16; refine Calls.mono (HS.out _ _ _ _ _ _ _ (HQ4.out.below (below_drew' hb6)) hT6) ?_; rintro e w7 ⟨rfl, hb7⟩))
    all_goals
      go_wp2_with fail
      go_ret
      exact ⟨rfl, below_on (below_on HB4.out (below_drew' hb6)) hb7⟩
  have HS := Lib.hid (fun W => samePond_yes 0 0 none none 0 0 0 0 [] W (Own.nil W 0 3 1).tab_of (Own.nil W 0 3 1).tab_of)
  have CP := Lib.hid (put_bad x0_0 x0_1 a len cap x1 x2 (w.alloc (.cells #[.int .i64 x0_0, .int .i64 x0_1, .slice a len cap] 24)) hE)
  unfold pondV at CP HS
  unfold pondNil at CP
  rcases putE_bad hE with h0 | ⟨h0, h1⟩ | ⟨h0, h1, h2⟩
  · rw [show putE x0_0 x0_1 len x2 = pondE x0_0 x0_1 len from if_pos h0] at CP
    have t1 : (pondE x0_0 x0_1 len == 0) = false := by simpa using h0
    have t2 : (pondE x0_0 x0_1 len != 0) = true := by simpa using h0
    generalize pondE x0_0 x0_1 len = c at *
    clear hE h0
    have t3 : (c != c) = false := by simp
    have t4 : (c == c) = true := by simp
    go_enter Try.func3, Try.ntmps3
    go_wp2_with fail
    refine CP.out.mono ?_
    rintro e w1 ⟨rfl, hb1⟩
    have kx1 := keep_blk hb1 HX0.out
    have HY1 : Hid ((w1.alloc (.cells #[.int .i64 0, .int .i64 0, .slice none 0 0] 24)).heap[w1.heap.size]? = some (.cells #[.int .i64 0, .int .i64 0, .slice none 0 0] 24 (0, 0))) := Lib.hid (MapKept.heap_alloc w1 _).1
    have HX1 : Hid ((w1.alloc (.cells #[.int .i64 0, .int .i64 0, .slice none 0 0] 24)).heap[w.heap.size]? = some _) := Lib.hid (keep_blk ((Below.refl _ _).alloc (Nat.le_refl _) _) kx1)
    have HB1 : Hid (Below w.heap.size w (w1.alloc (.cells #[.int .i64 0, .int .i64 0, .slice none 0 0] 24))) := Lib.hid (below_on (below_on HB0.out hb1) ((Below.refl _ _).alloc (Nat.le_refl _) _))
    obtain ⟨⟨c0, c1, c2⟩, f0, f1, f2⟩ := pond_cells kx1
    obtain ⟨⟨d0, d1, d2⟩, g0, g1, g2⟩ := pond_cells HX1.out
    clear hb1 kx1
    go_wp2_with fail
    refine (HR.out _).mono ?_
    rintro e w2 ⟨rfl, hb2⟩
    have HX2 := Lib.hid (keep_blk hb2 HX1.out)
    have HY2 := Lib.hid (keep_blk hb2 HY1.out)
    have HB2 := Lib.hid (below_on HB1.out hb2)
    clear hb2 HX1 HY1 HB1 c0 c1 c2 f0 f1 f2 d0 d1 d2 g0 g1 g2
    obtain ⟨⟨c0, c1, c2⟩, f0, f1, f2⟩ := pond_cells HX2.out
    go_wp2_with fail
    refine (HC.out _).mono ?_
    rintro e w3 ⟨rfl, hb3⟩
    have HX3 := Lib.hid (keep_blk hb3 HX2.out)
    have HY3 := Lib.hid (keep_blk hb3 HY2.out)
    have HB3 := Lib.hid (below_on HB2.out hb3)
    clear hb3 HX2 HY2 HB2 c0 c1 c2 f0 f1 f2
    go_wp2_with fail
    refine (HZ.out _).mono ?_
    rintro e w4 ⟨rfl, hb4⟩
    have HX4 := Lib.hid (keep_blk hb4 HX3.out)
    have HY4 := Lib.hid (keep_blk hb4 HY3.out)
    have HB4 := Lib.hid (below_on HB3.out hb4)
    clear hb4 HX3 HY3 HB3
    obtain ⟨⟨c0, c1, c2⟩, f0, f1, f2⟩ := pond_cells HX4.out
    obtain ⟨⟨d0, d1, d2⟩, g0, g1, g2⟩ := pond_cells HY4.out
    go_wp2_with fail
    refine (HS.out _).mono ?_
    rintro e w5 ⟨rfl, hb5⟩
    go_wp2
    go_ret
    exact ⟨rfl, below_on HB4.out hb5⟩
  · rw [show putE x0_0 x0_1 len x2 = 2 from (if_neg (fun h => h h0)).trans (if_pos h1)] at CP
    rw [h0] at HR HC
    have t1 : (x0_1 == 1000000000000) = true := by simpa using h1
    clear hE h0 h1
    go_enter Try.func3, Try.ntmps3
    go_wp2_with fail
    refine CP.out.mono ?_
    rintro e w1 ⟨rfl, hb1⟩
    have kx1 := keep_blk hb1 HX0.out
    have HY1 : Hid ((w1.alloc (.cells #[.int .i64 0, .int .i64 0, .slice none 0 0] 24)).heap[w1.heap.size]? = some (.cells #[.int .i64 0, .int .i64 0, .slice none 0 0] 24 (0, 0))) := Lib.hid (MapKept.heap_alloc w1 _).1
    have HX1 : Hid ((w1.alloc (.cells #[.int .i64 0, .int .i64 0, .slice none 0 0] 24)).heap[w.heap.size]? = some _) := Lib.hid (keep_blk ((Below.refl _ _).alloc (Nat.le_refl _) _) kx1)
    have HB1 : Hid (Below w.heap.size w (w1.alloc (.cells #[.int .i64 0, .int .i64 0, .slice none 0 0] 24))) := Lib.hid (below_on (below_on HB0.out hb1) ((Below.refl _ _).alloc (Nat.le_refl _) _))
    obtain ⟨⟨c0, c1, c2⟩, f0, f1, f2⟩ := pond_cells kx1
    obtain ⟨⟨d0, d1, d2⟩, g0, g1, g2⟩ := pond_cells HX1.out
    clear hb1 kx1
    go_wp2_with fail
    refine (HR.out _).mono ?_
    rintro e w2 ⟨rfl, hb2⟩
    have HX2 := Lib.hid (keep_blk hb2 HX1.out)
    have HY2 := Lib.hid (keep_blk hb2 HY1.out)
    have HB2 := Lib.hid (below_on HB1.out hb2)
    clear hb2 HX1 HY1 HB1 c0 c1 c2 f0 f1 f2 d0 d1 d2 g0 g1 g2
    obtain ⟨⟨c0, c1, c2⟩, f0, f1, f2⟩ := pond_cells HX2.out
    go_wp2_with fail
    refine (HC.out _).mono ?_
    rintro e w3 ⟨rfl, hb3⟩
    have HX3 := Lib.hid (keep_blk hb3 HX2.out)
    have HY3 := Lib.hid (keep_blk hb3 HY2.out)
    have HB3 := Lib.hid (below_on HB2.out hb3)
    clear hb3 HX2 HY2 HB2 c0 c1 c2 f0 f1 f2
    go_wp2_with fail
    refine (HZ.out _).mono ?_
    rintro e w4 ⟨rfl, hb4⟩
    have HX4 := Lib.hid (keep_blk hb4 HX3.out)
    have HY4 := Lib.hid (keep_blk hb4 HY3.out)
    have HB4 := Lib.hid (below_on HB3.out hb4)
    clear hb4 HX3 HY3 HB3
    obtain ⟨⟨c0, c1, c2⟩, f0, f1, f2⟩ := pond_cells HX4.out
    obtain ⟨⟨d0, d1, d2⟩, g0, g1, g2⟩ := pond_cells HY4.out
    go_wp2_with fail
    refine (HS.out _).mono ?_
    rintro e w5 ⟨rfl, hb5⟩
    go_wp2
    go_ret
    exact ⟨rfl, below_on HB4.out hb5⟩
  · rw [show putE x0_0 x0_1 len x2 = 1 from (if_neg (fun h => h h0)).trans ((if_neg h1).trans (if_pos h2))] at CP
    rw [h0] at HR HC
    have t1 : (x0_1 == 1000000000000) = false := by simpa using h1
    have h3 : x2 < 0 ∨ (0 ≤ x2 ∧ x0_1 < x2) := by omega
    clear hE h0 h1 h2
    rcases h3 with h3 | ⟨h3, h4⟩
    · go_enter Try.func3, Try.ntmps3
      go_wp2_with fail
      refine CP.out.mono ?_
      rintro e w1 ⟨rfl, hb1⟩
      have kx1 := keep_blk hb1 HX0.out
      have HY1 : Hid ((w1.alloc (.cells #[.int .i64 0, .int .i64 0, .slice none 0 0] 24)).heap[w1.heap.size]? = some (.cells #[.int .i64 0, .int .i64 0, .slice none 0 0] 24 (0, 0))) := Lib.hid (MapKept.heap_alloc w1 _).1
      have HX1 : Hid ((w1.alloc (.cells #[.int .i64 0, .int .i64 0, .slice none 0 0] 24)).heap[w.heap.size]? = some _) := Lib.hid (keep_blk ((Below.refl _ _).alloc (Nat.le_refl _) _) kx1)
      have HB1 : Hid (Below w.heap.size w (w1.alloc (.cells #[.int .i64 0, .int .i64 0, .slice none 0 0] 24))) := Lib.hid (below_on (below_on HB0.out hb1) ((Below.refl _ _).alloc (Nat.le_refl _) _))
      obtain ⟨⟨c0, c1, c2⟩, f0, f1, f2⟩ := pond_cells kx1
      obtain ⟨⟨d0, d1, d2⟩, g0, g1, g2⟩ := pond_cells HX1.out
      clear hb1 kx1
      go_wp2_with fail
      refine (HR.out _).mono ?_
      rintro e w2 ⟨rfl, hb2⟩
      have HX2 := Lib.hid (keep_blk hb2 HX1.out)
      have HY2 := Lib.hid (keep_blk hb2 HY1.out)
      have HB2 := Lib.hid (below_on HB1.out hb2)
      clear hb2 HX1 HY1 HB1 c0 c1 c2 f0 f1 f2 d0 d1 d2 g0 g1 g2
      obtain ⟨⟨c0, c1, c2⟩, f0, f1, f2⟩ := pond_cells HX2.out
      go_wp2_with fail
      refine (HC.out _).mono ?_
      rintro e w3 ⟨rfl, hb3⟩
      have HX3 := Lib.hid (keep_blk hb3 HX2.out)
      have HY3 := Lib.hid (keep_blk hb3 HY2.out)
      have HB3 := Lib.hid (below_on HB2.out hb3)
      clear hb3 HX2 HY2 HB2 c0 c1 c2 f0 f1 f2
      go_wp2_with fail
      refine (HZ.out _).mono ?_
      rintro e w4 ⟨rfl, hb4⟩
      have HX4 := Lib.hid (keep_blk hb4 HX3.out)
      have HY4 := Lib.hid (keep_blk hb4 HY3.out)
      have HB4 := Lib.hid (below_on HB3.out hb4)
      clear hb4 HX3 HY3 HB3
      obtain ⟨⟨c0, c1, c2⟩, f0, f1, f2⟩ := pond_cells HX4.out
      obtain ⟨⟨d0, d1, d2⟩, g0, g1, g2⟩ := pond_cells HY4.out
      go_wp2_with fail
      refine (HS.out _).mono ?_
      rintro e w5 ⟨rfl, hb5⟩
      go_wp2
      go_ret
      exact ⟨rfl, below_on HB4.out hb5⟩
    · go_enter Try.func3, Try.ntmps3
      go_wp2_with fail
      refine CP.out.mono ?_
      rintro e w1 ⟨rfl, hb1⟩
      have kx1 := keep_blk hb1 HX0.out
      have HY1 : Hid ((w1.alloc (.cells #[.int .i64 0, .int .i64 0, .slice none 0 0] 24)).heap[w1.heap.size]? = some (.cells #[.int .i64 0, .int .i64 0, .slice none 0 0] 24 (0, 0))) := Lib.hid (MapKept.heap_alloc w1 _).1
      have HX1 : Hid ((w1.alloc (.cells #[.int .i64 0, .int .i64 0, .slice none 0 0] 24)).heap[w.heap.size]? = some _) := Lib.hid (keep_blk ((Below.refl _ _).alloc (Nat.le_refl _) _) kx1)
      have HB1 : Hid (Below w.heap.size w (w1.alloc (.cells #[.int .i64 0, .int .i64 0, .slice none 0 0] 24))) := Lib.hid (below_on (below_on HB0.out hb1) ((Below.refl _ _).alloc (Nat.le_refl _) _))
      obtain ⟨⟨c0, c1, c2⟩, f0, f1, f2⟩ := pond_cells kx1
      obtain ⟨⟨d0, d1, d2⟩, g0, g1, g2⟩ := pond_cells HX1.out
      clear hb1 kx1
      go_wp2_with fail
      refine (HR.out _).mono ?_
      rintro e w2 ⟨rfl, hb2⟩
      have HX2 := Lib.hid (keep_blk hb2 HX1.out)
      have HY2 := Lib.hid (keep_blk hb2 HY1.out)
      have HB2 := Lib.hid (below_on HB1.out hb2)
      clear hb2 HX1 HY1 HB1 c0 c1 c2 f0 f1 f2 d0 d1 d2 g0 g1 g2
      obtain ⟨⟨c0, c1, c2⟩, f0, f1, f2⟩ := pond_cells HX2.out
      go_wp2_with fail
      refine (HC.out _).mono ?_
      rintro e w3 ⟨rfl, hb3⟩
      have HX3 := Lib.hid (keep_blk hb3 HX2.out)
      have HY3 := Lib.hid (keep_blk hb3 HY2.out)
      have HB3 := Lib.hid (below_on HB2.out hb3)
      clear hb3 HX2 HY2 HB2 c0 c1 c2 f0 f1 f2
      go_wp2_with fail
      refine (HZ.out _).mono ?_
      rintro e w4 ⟨rfl, hb4⟩
      have HX4 := Lib.hid (keep_blk hb4 HX3.out)
      have HY4 := Lib.hid (keep_blk hb4 HY3.out)
      have HB4 := Lib.hid (below_on HB3.out hb4)
      clear hb4 HX3 HY3 HB3
      obtain ⟨⟨c0, c1, c2⟩, f0, f1, f2⟩ := pond_cells HX4.out
      obtain ⟨⟨d0, d1, d2⟩, g0, g1, g2⟩ := pond_cells HY4.out
      go_wp2_with fail
      refine (HS.out _).mono ?_
      rintro e w5 ⟨rfl, hb5⟩
      go_wp2
      go_ret
      exact ⟨rfl, below_on HB4.out hb5⟩

set_option maxRecDepth 100000 in
theorem lifted (os : Os) (started : os.Started) (H : Type) (enc : TypeId × Value → H) :
    ReturnsInHanded {} Try.checked os 3 .any (Rows.pondSaysSpec.pre6 enc Try.prog Try.f3 Rows.pondSaysRow.domain false) (Rows.pondSaysSpec.post enc Try.prog Try.f3 false true false false) := by
  refine returnsInHanded_of_change_sized (C := Try.checked) own started (by kernel_rfl) Try.func3
    (ChangeSpec.witness6 (enc := enc) (C := Try.checked) false ⟨#[], #[.agg #[.int .i64 0, .int .i64 0, .slice none 0 0], .int .i64 0, .int .i64 0], []⟩ 8 (by kernel_rfl) (by kernel_rfl) (by kernel_rfl) (by kernel_rfl)) ?_
  intro W base args ds gs before hval0 hW hcnd hsz0 _
  have hval : ∀ (j : Nat) t v, Try.f3.params[j]? = some t → args[j]? = some v → Value.okWide Try.prog W .any base t v := hval0
  have hW' := hW
  obtain ⟨p, q, hA0, hV, rfl, hfz, hnd⟩ := hW
  have hA : DataW.TrodAll enc Try.prog W 0 (fun _ => true) true Try.f3.params.toList args.toList ds p := hA0
  have hsz : (DataW.weightsEach Try.prog (Try.f3.params.toList ++ Rows.pondSaysSpec.plain.varTypes Try.prog) (ds ++ gs)).all (· ≤ reachBytes) = true := hsz0
  rw [Try.params3] at hA hval hsz
  obtain ⟨v0, vs0, d0, ds0, p0, q0, hargs, rfl, rfl, h0, r0⟩ := trodAll_cons hA
  obtain ⟨v1, vs1, d1, ds1, p1, q1, rfl, rfl, rfl, h1, r1⟩ := trodAll_cons r0
  obtain ⟨v2, vs2, d2, ds2, p2, q2, rfl, rfl, rfl, h2, r2⟩ := trodAll_cons r1
  obtain ⟨rfl, rfl, rfl⟩ := trodAll_nil r2
  obtain rfl : args = #[v0, v1, v2] := by cases args; simp_all
  obtain ⟨rfl, rfl⟩ := trodVars_none hV
  have k0 := h0
  have L0 := light_of hsz (j := 0) (t := 24) (d := d0) rfl rfl
  have lt0 : ∀ x ∈ p0, x.block < W.heap.size := by obtain ⟨m, hm⟩ := k0; exact DataW.trod_lt m _ _ _ hm
  obtain ⟨cs0, rfl, hsz0⟩ := okWide_struct Try.underlying24 (hval 0 24 v0 rfl rfl)
  obtain ⟨n0, f0⟩ := trod_agg_of h0
  obtain ⟨c0_0, c0_1, c0_2, _, _, _, _, _, _, hcs0, g0_0, g0_1, g0_2⟩ := struct3 Try.underlying24 (by kernel_rfl) (by kernel_rfl) f0 L0
  obtain ⟨x0_0, e0_0, _, w0_0⟩ := DataW.trod_int Try.underlying3 g0_0.1
  obtain ⟨x0_1, e0_1, _, w0_1⟩ := DataW.trod_int Try.underlying3 g0_1.1
  obtain ⟨x0_2, e0_2, t0_2, b0_2, o0_2⟩ := el_slice (w := W) (k := 1) iC wfI (by decide) Try.underlying22 (by kernel_rfl) (el_int Try.underlying3) (B := 8) (by kernel_rfl) _ _ _ g0_2.1 g0_2.2
  simp only [slC, List.cons.injEq, and_true] at e0_0 e0_1 e0_2
  subst e0_0 e0_1 e0_2
  obtain rfl : cs0 = #[.int .i64 x0_0, .int .i64 x0_1, .slice x0_2.a x0_2.len x0_2.cap] := Array.toList_inj.1 hcs0
  have k1 := h1
  have L1 := light_of hsz (j := 1) (t := 3) (d := d1) rfl rfl
  have lt1 : ∀ x ∈ p1, x.block < W.heap.size := by obtain ⟨m, hm⟩ := k1; exact DataW.trod_lt m _ _ _ hm
  obtain ⟨x1, rfl, rfl, rfl, w1⟩ := open_int Try.underlying3 (hval 1 3 v1 rfl rfl) h1
  have k2 := h2
  have L2 := light_of hsz (j := 2) (t := 3) (d := d2) rfl rfl
  have lt2 : ∀ x ∈ p2, x.block < W.heap.size := by obtain ⟨m, hm⟩ := k2; exact DataW.trod_lt m _ _ _ hm
  obtain ⟨x2, rfl, rfl, rfl, w2⟩ := open_int Try.underlying3 (hval 2 3 v2 rfl rfl) h2
  clear hA0 hval0
  refine (walk x0_0 x0_1 x0_2 x1 x2 W w0_0 w0_1 t0_2 b0_2 o0_2 w1 w2).mono fun e W' ⟨he, hg⟩ => ?_
  subst he
  exact ⟨_, rfl, _, _, _, [], _, [], hW', trodAll_mk1 (shut_bool Try.underlying4 _), (trodAll_cons_mk (Below.trod laidOut (by kernel_rfl) (of_decide_eq_true (by kernel_rfl)) k0 hg lt0) (trodAll_cons_mk (Below.trod laidOut (by kernel_rfl) (of_decide_eq_true (by kernel_rfl)) k1 hg lt1) (trodAll_cons_mk (Below.trod laidOut (by kernel_rfl) (of_decide_eq_true (by kernel_rfl)) k2 hg lt2) trodAll_mk0))), rfl, hg.frame _, fun h => by cases h⟩

theorem over : Rows.pondSaysRow.holds Try.pinned (OpenSpec.ofChange Rows.pondSaysSpec) :=
  OpenClaim.holds_of_wide 3 Try.f3 rfl rfl rfl rfl rfl rfl rfl ⟨rfl, rfl, rfl, rfl, rfl⟩ rfl rfl rfl rfl rfl (by kernel_rfl) Try.func3 (by kernel_rfl)
    (of_decide_eq_true (by kernel_rfl)) (by unfold Func.isWrapper; first | (rw [if_pos (by decide +kernel)]; kernel_rfl) | (rw [if_neg (by decide +kernel)]; exact ⟨rfl, rfl⟩))
    (fun os started H enc _ => lifted os started H enc)

/-- ████ THE STATEMENT ████ -/
theorem proved : Rows.PondSaysSaid :=
  over
#print axioms proved
end Go.Proofs.Ytfndahcihmpmhaa.pondSays
