/-
  'Rows.PondAllSaid' is proved: over all draws every subset of the offered items is equally frequent. No condition.
  The frame of this proof was written by the kit's proof-skeleton.mjs.
-/
import Derived.Test.YtfndahcihmpmhaaRows
import Derived.Test.YtfndahcihmpmhaaWithin
import Derived.Test.YtfndahcihmpmhaaPondEach
import Derived.Test.YtfndahcihmpmhaaCombWays
import Derived.Test.YtfndahcihmpmhaaRefFact
import Derived.Test.YtfndahcihmpmhaaEqualInts
import Derived.Test.YtfndahcihmpmhaaLit
import Derived.Deep.DeepCutAuto
import Derived.Deep.LoopGhost
import Derived.Deep.RegionWith
import Derived.WalkKit
import Derived.ProofKit
import Derived.ChangeOld
import Derived.Below
import Derived.OpenShut
import Derived.ShutString
namespace Go.Proofs.Ytfndahcihmpmhaa.pondAll
open Go.ChangeShapes Go.WideShapes Go.ChangeAt Go.RowKit
open Go.ChangeMaps (open_string shut_string)
set_option linter.unusedVariables false      -- a walk need not use every 'w<i>' (that an integer argument fits its kind)

theorem own : ownKnob Try.prog.godebug = none := by kernel_rfl

open PondMath
/-- the two boxed numbers, and that nothing older has turned -/
structure KN (w wr : World) (x y : Int) : Prop where
  kc : wr.heap[w.heap.size]? = some (.cells #[.int .i64 x] 3 (0, 0))
  nc : wr.heap[w.heap.size + 1]? = some (.cells #[.int .i64 y] 3 (0, 0))
  bel : Below w.heap.size w wr
theorem KN.big {w wr : World} {x y : Int} (h : KN w wr x y) : w.heap.size + 1 < wr.heap.size := (Array.getElem?_eq_some_iff.1 h.nc).1
theorem KN.below {w wr w' : World} {x y : Int} (h : KN w wr x y) (hb : Below wr.heap.size wr w') : KN w w' x y := ⟨keep_blk hb h.kc, keep_blk hb h.nc, below_on h.bel hb⟩
theorem KN.alloc {w wr : World} {x y : Int} (h : KN w wr x y) (o : Obj) : KN w (wr.alloc o) x y := h.below ((Below.refl _ _).alloc (Nat.le_refl _) _)
theorem KN.drew {w wr : World} {x y : Int} (h : KN w wr x y) : KN w wr.drew x y := ⟨h.kc, h.nc, h.bel.drew⟩
theorem KN.setK {w wr : World} {x y : Int} (h : KN w wr x y) (z : Int) : KN w (wr.setCell ⟨w.heap.size, 0, none⟩ (.int .i64 z)) z y :=
  ⟨heap_setCell_same wr _ 0 _ _ (.int .i64 z) h.kc, by rw [Below.heap_setCell _ _ _ _ (show w.heap.size + 1 ≠ w.heap.size by omega)]; exact h.nc, h.bel.setCell (Nat.le_refl _) _⟩
theorem KN.setN {w wr : World} {x y : Int} (h : KN w wr x y) (z : Int) : KN w (wr.setCell ⟨w.heap.size + 1, 0, none⟩ (.int .i64 z)) x z :=
  ⟨by rw [Below.heap_setCell _ _ _ _ (show w.heap.size ≠ w.heap.size + 1 by omega)]; exact h.kc, heap_setCell_same wr _ 0 _ _ (.int .i64 z) h.nc, h.bel.setCell (p := ⟨w.heap.size + 1, 0, none⟩) (Nat.le_succ _) _⟩
theorem KN.grown {w wr w1 : World} {x y : Int} {o : Obj} {e : TypeId} {v : Value} {R : List (List Value)} (h : KN w wr x y) (hO : Own wr (w.heap.size + 2) e 1 v R) (hg : (wr.alloc o).grownBy w1 v.ownBlock) : KN w w1 x y := by
  have hb := h.big
  exact ⟨blk_grown (w := w) hO hg (by omega) h.kc, blk_grown (w := w) hO hg (by omega) h.nc, (hO.alloc o).under (h.bel.alloc (by omega) o) (by omega) (by simp; omega) hg⟩
theorem pairs_all : ∀ k : Fin 4, ∀ n : Fin 7, 1 ≤ k.val → k.val ≤ n.val → (k.val, n.val) ∈ pairs := by decide
theorem pairs_in {k n : Nat} (h1 : 1 ≤ k) (h2 : k ≤ 3) (h3 : k ≤ n) (h4 : n ≤ 6) : (k, n) ∈ pairs := pairs_all ⟨k, by omega⟩ ⟨n, by omega⟩ h1 h3
theorem bndL_succ (k n : Nat) : bndL k (n + 1) = bndL k n ++ [(bnd k n : Int)] := by simp [bndL, List.range_succ]

/-! ### STEP 1: THE WALK: the Go text returns true. 'Grown w w'': the world has at most new blocks (Derived/RowKit3.lean). Part the cases AHEAD of 'go_enter' where a test parts the walk; take each callee by a contract of your own. -/
set_option maxRecDepth 100000 in
set_option maxHeartbeats 2000000 in
theorem walk (a0 : Int) (a1 : Int) (w0 : (Lit.int .i64 a0).wf = true) (w1 : (Lit.int .i64 a1).wf = true) (w : World) :
    Calls Try.prog 7 #[.int .i64 a0, .int .i64 a1] w fun e w' => e = .returned (.bool true) ∧ Below w.heap.size w w' := by
  have b0 := wf_i64 w0
  have b1 := wf_i64 w1
  have hK0 : KN w ((w.alloc (.cells #[.int .i64 a0] 3)).alloc (.cells #[.int .i64 a1] 3)) a0 a1 := ⟨heap_two _ _ _, by have := (MapKept.heap_alloc (w.alloc (.cells #[.int .i64 a0] 3)) (.cells #[.int .i64 a1] 3)).1; simpa using this, ((Below.refl _ _).alloc (Nat.le_refl _) _).alloc (by simp) _⟩
  have hs2 : ((w.alloc (.cells #[.int .i64 a0] 3)).alloc (.cells #[.int .i64 a1] 3)).heap.size = w.heap.size + 1 + 1 := by simp
  have C0 := put_ok 2 2 (some ⟨w.heap.size + 1 + 1, 0, none⟩) 2 2 [0, 1] 2 2 (((w.alloc (.cells #[.int .i64 a0] 3)).alloc (.cells #[.int .i64 a1] 3)).alloc (.cells #[.int .i64 0, .int .i64 1] 3)) (tab_lit _ 3 1 2 ([(0 : Int), 1].map iC) #[.int .i64 0, .int .i64 1] rfl rfl (rows_of iC_len _) (by decide) _ hs2.symm) (by decide)
  rw [show pondL 2 2 [0, 1] 2 2 = [0, 1] from by decide, show (2 : Int) + 1 = 3 from rfl] at C0
  unfold pondV at C0
  have C0 := Lib.hid C0
  have HK0 := Lib.hid (hK0.alloc (.cells #[.int .i64 0, .int .i64 1] 3))
  clear hK0 hs2
  go_enter Try.func7, Try.ntmps7
  go_wp2_with fail
  refine C0.out.mono ?_
  rintro e v1 ⟨s1, rfl, hO1, hb1⟩
  obtain ⟨q1, cap1, rfl, hT1⟩ := hO1.tab
  have E1 := Lib.hid (equal_ints q1 (some ⟨v1.heap.size + 1, 0, none⟩) 2 cap1 2 2 [0, 1] [0, 1] ((v1.alloc (.cells #[.int .i64 2, .int .i64 3, .slice q1 2 cap1] 24)).alloc (.cells #[.int .i64 0, .int .i64 1] 3))
    (hT1.below (((Below.refl _ _).alloc (Nat.le_refl _) _).alloc (by simp) _)) (tab_lit _ _ 1 2 ([(0 : Int), 1].map iC) #[.int .i64 0, .int .i64 1] rfl rfl (rows_of iC_len _) (by decide) _ (by simp)) true (by simp))
  have HK1 := Lib.hid (((HK0.out.below hb1).alloc (.cells #[.int .i64 2, .int .i64 3, .slice q1 2 cap1] 24)).alloc (.cells #[.int .i64 0, .int .i64 1] 3))
  clear hO1 hT1 hb1 C0 HK0
  go_wp2_with fail
  refine E1.out.mono ?_
  rintro e v2 ⟨rfl, hb2⟩
  have HK2 := Lib.hid (HK1.out.below hb2)
  clear HK1 hb2 E1
  have c0 := cell_blk (i := 0) HK2.out.kc rfl
  have f0 := frozen_blk (i := 0) HK2.out.kc
  have d0 := withI_bd a0 3 (by omega)
  go_wp2_with fail
  refine (within_int a0 3 _ b0 (by omega) (by omega)).mono ?_
  rintro e v3 ⟨rfl, rfl⟩
  generalize withI a0 3 = K0 at *
  obtain ⟨K0, rfl⟩ := Int.eq_ofNat_of_zero_le d0.1
  go_upto_region 5 with fail
  obtain ⟨k, hk⟩ : ∃ k : Nat, (1 + (K0 : Int)) = (k : Int) := ⟨1 + K0, by simp⟩
  rw [hk]
  have hk1 : 1 ≤ k := by omega
  have hk2 : k ≤ 3 := by omega
  have HK3 := Lib.hid (HK2.out.setK (k : Int))
  generalize hW3 : v2.setCell ⟨w.heap.size, 0, none⟩ (.int .i64 (k : Int)) = W3 at *
  clear hW3 d0 hk c0 f0 HK2
  have d1 := withI_bd a1 (7 - (k : Int)) (by omega)
  have e7 : IntKind.i64.wrap (7 - (k : Int)) = 7 - (k : Int) := by rw [IntKind.wrap_i64]; omega
  have HW : Hid (∀ W, Calls Try.prog 27 #[.int .i64 a1, .int .i64 (IntKind.i64.wrap (7 - (k : Int)))] W fun e w' => e = .returned (.int .i64 (withI a1 (7 - (k : Int)))) ∧ W = w') := Lib.hid (fun W => by rw [e7]; exact within_int a1 (7 - (k : Int)) W b1 (by omega) (by omega))
  clear e7
  generalize withI a1 (7 - (k : Int)) = N0 at *
  obtain ⟨N0, rfl⟩ := Int.eq_ofNat_of_zero_le d1.1
  obtain ⟨n, hn⟩ : ∃ n : Nat, ((k : Int) + (N0 : Int)) = (n : Int) := ⟨k + N0, by simp⟩
  have HNN := Lib.hid hn
  have HWR : Hid (IntKind.i64.wrap (n : Int) = n) := Lib.hid (by rw [IntKind.wrap_i64]; omega)
  have hkn : k ≤ n := by omega
  have hn6 : n ≤ 6 := by omega
  have HPR : Hid ((k, n) ∈ pairs) := Lib.hid (pairs_in hk1 hk2 hkn hn6)
  clear d1 hn
  go_cut [38] (fun s wx => Hid (KN w wx k n))
  case first =>
    have c0 := cell_blk (i := 0) HK3.out.kc rfl
    have f0 := frozen_blk (i := 0) HK3.out.kc
    have c1 := cell_blk (i := 0) HK3.out.nc rfl
    have f1 := frozen_blk (i := 0) HK3.out.nc
    go_region_with (first | (go_at_call 27; refine (HW.out _).mono ?_; rintro e w5 ⟨rfl, rfl⟩))
    all_goals
      rw [HNN.out, HWR.out]
      go_wp2_with fail
      go_meet
      case rel => first | exact Lib.hid (HK3.out.setN (n : Int)).drew | exact Lib.hid (HK3.out.drew.setN (n : Int))
  case rest =>
  have HK4 : Hid (KN w wc k n) := hcut
  clear hcut HK3 HW HNN HWR b0 b1
  have cN := cell_blk (i := 0) HK4.out.nc rfl
  go_wp2_with fail
  clear cN
  go_loopg [7, 40] n (fun g v i wr => ∃ j : Nat, j + g = n ∧ i = .int .i64 j ∧ Hid (KN w wr k n) ∧ Hid (Own wr (w.heap.size + 2) 3 1 v ((bndL k j).map iC)))
  case atStart => exact ⟨0, by omega, rfl, HK4, Lib.hid (Own.nil _ _ _ _)⟩
  case round =>
    clear HK4
    obtain ⟨j, hj0, rfl, HK, HV⟩ := hrel
    have HJ := Lib.hid hj0
    have hj : j ≤ n := by omega
    clear hj0
    have cK := cell_blk (i := 0) HK.out.kc rfl
    have hbig := HK.out.big
    by_cases hlt : j < n
    · have HBS := Lib.hid (bndL_succ k j)
      by_cases hjk : j < k
      · rw [show bnd k j = 1 from if_pos hjk] at HBS
        go_wp2_with (at_builtin; refine wpList_append_rows _ rfl _ _ 22 rfl (w.heap.size + 2) 3 _ 1 8 Try.underlying22 info_int rfl (by decide) _ ((bndL k j).map iC) rfl (HV.out.alloc _) ⟨wr.heap.size, 0, none⟩ 1 1 [iC 1] rfl rfl (by simp [iC]) (one_row wr (iC 1) 3 _ rfl) (by simp [iC, Value.oneCell']) (by rw [List.length_map, bndL_len]; omega) (by decide) (by simp; omega) ?_; intro v6 w6 hO6 hg6)
        go_roundg (n - (j + 1))
        case measure => have := HJ.out; omega
        case rel => exact ⟨j + 1, by omega, by go_num, Lib.hid (HK.out.grown HV.out hg6), by rw [HBS.out, List.map_append]; exact Lib.hid hO6⟩
      · have hjk' : k ≤ j := by omega
        rw [show bnd k j = j + 1 from if_neg hjk] at HBS
        clear hjk
        go_wp2_with (at_builtin; refine wpList_append_rows _ rfl _ _ 22 rfl (w.heap.size + 2) 3 _ 1 8 Try.underlying22 info_int rfl (by decide) _ ((bndL k j).map iC) rfl (HV.out.alloc _) ⟨wr.heap.size, 0, none⟩ 1 1 [iC ((j : Int) + 1)] rfl rfl (by simp [iC]) (one_row wr (iC ((j : Int) + 1)) 3 _ rfl) (by simp [iC, Value.oneCell']) (by rw [List.length_map, bndL_len]; omega) (by decide) (by simp; omega) ?_; intro v6 w6 hO6 hg6)
        go_roundg (n - (j + 1))
        case measure => have := HJ.out; omega
        case rel => exact ⟨j + 1, by omega, by go_num, Lib.hid (HK.out.grown HV.out hg6), by rw [HBS.out, List.map_append]; exact Lib.hid hO6⟩
    · obtain rfl : j = n := by omega
      obtain ⟨ab, capb, rfl, hTb⟩ := HV.out.tab
      rw [List.length_map, bndL_len] at hTb ⊢
      have hc1 : ((wr.alloc (.map #[] 0)).alloc (.cells #[.map (some wr.heap.size)] 50)).heap[wr.heap.size + 1]? = some (.cells #[.map (some wr.heap.size)] 50 (0, 0)) := by
        have := (MapKept.heap_alloc (wr.alloc (.map #[] 0)) (.cells #[.map (some wr.heap.size)] 50)).1
        rwa [show (wr.alloc (.map #[] 0)).heap.size = wr.heap.size + 1 from by simp] at this
      have hI0 : PInv wr ((wr.alloc (.map #[] 0)).alloc (.cells #[.map (some wr.heap.size)] 50)) wr.heap.size w.heap.size (w.heap.size + 1) k j 0 :=
        ⟨rfl, HK.out.kc, HK.out.nc, ((Below.refl _ _).alloc (Nat.le_refl _) _).alloc (by simp) _, hc1, (ownsCounts_made _ _ _ wr).below ((Below.refl _ _).alloc (Nat.le_refl _) _)⟩
      have C5 := Lib.hid (pondEach_any wr wr.heap.size w.heap.size (w.heap.size + 1) k j _ hI0 HPR.out ab capb hTb)
      have hmm := @run_makeMap Try.prog
      clear hc1 hI0 hTb HV cK HJ hj hlt
      go_wp2_with fail
      refine C5.out.mono ?_
      rintro e w5 ⟨rfl, hI5⟩
      have hk5 : w5.heap[w.heap.size]? = some (.cells #[.int .i64 k] 3 (0, 0)) := (hI5.below.block _ (by omega)).trans hI5.kc
      have hn5 : w5.heap[w.heap.size + 1]? = some (.cells #[.int .i64 j] 3 (0, 0)) := (hI5.below.block _ (by omega)).trans hI5.nc
      have cK := cell_blk (i := 0) hk5 rfl
      have cN := cell_blk (i := 0) hn5 rfl
      have cM := cell_blk (i := 0) hI5.mcell rfl
      have hL := fun ty => hI5.cnts.len Try.underlying50 ty
      rw [kinds_all HPR.out] at hL
      have HWY := Lib.hid (ways_ok j k (by omega) hkn w5)
      have HB5 := Lib.hid (below_on HK.out.bel hI5.below)
      obtain ⟨D, hD1, hD2, hD3, hD4⟩ := hI5.cnts
      rw [kinds_all HPR.out] at hD2
      have HD := Lib.hid (And.intro hD3 hD4)
      have HO := Lib.hid (And.intro hD1 hD2)
      have HKN5 := Lib.hid (And.intro hk5 hn5)
      generalize Binom.binom j k = Bn at *
      have t1 : ((Bn : Int) != (Bn : Int)) = false := by simp
      clear hI5 hD1 hD2 hD3 hD4 hk5 hn5 C5 hmm
      go_wp2_with fail
      refine HWY.out.mono ?_
      rintro e w6 ⟨rfl, hw6⟩
      subst hw6
      go_wp2_with (at_range; refine wpList_range_own _ rfl _ 50 rfl 3 3 lawII Try.underlying50 _ wr.heap.size _ D rfl HO.out.1 ?_; intro w7 hrg7 hg7 hs7)
      go_frame
      obtain ⟨wq, hwq⟩ : ∃ wq, wq = wr := ⟨_, rfl⟩
      subst hwq
      have HB7 : Hid (Below w5.heap.size w5 w7) := Lib.hid ((Below.refl _ _).grown hg7 (Nat.le_refl _) (fun q hq => by cases hq))
      have HRG : Hid (w7.ranges Try.prog 3 (plainElem Try.prog 3) wq.heap.size w5.heap.size (codes k j (wide k j)).length D (Maps.has D) Bn) := by
        rw [HO.out.2] at hrg7
        exact Lib.hid hrg7
      clear hrg7 hg7 hs7 cK cN cM hL t1 HWY
      go_loopg [14] Bn (fun g s wx => ∃ (left : Lit → Bool) (cnt : Nat), Hid (cnt ≤ g) ∧ Hid (wx.ranges Try.prog 3 (plainElem Try.prog 3) wq.heap.size w5.heap.size (codes k j (wide k j)).length D left cnt) ∧ Hid (∀ kl, left kl = true → Maps.has D kl = true) ∧ Hid (Below w5.heap.size w5 wx))
      case atStart => exact ⟨_, _, Lib.hid (Nat.le_refl _), HRG, Lib.hid (fun _ h => h), HB7⟩
      case round =>
        clear HRG HB7
        obtain ⟨left, cnt, HG, HR, HL, HB⟩ := hrel
        have hjk : (j : Int) - (k : Int) = ((j - k : Nat) : Int) := by omega
        have F := Lib.hid (refFact_any (j - k) (by omega))
        have HCT := Lib.hid (fun z hz => count_all HPR.out (z := z) hz)
        go_wp2_with (at_next; refine wpList_next_ranges_ii _ rfl _ rfl 3 3 .i64 .i64 lawII Try.underlying3 Try.underlying3 wq.heap.size w5.heap.size _ D left cnt rfl HR.out ?_ ?_)
        · intro hc0 hl0
          go_wp2
          go_ret
          exact ⟨rfl, below_on HB5.out HB.out⟩
        · intro x c w1 cnt1 hwx hwc hlx hat hrg1 hlt1 hg1 hs1 hen
          have hx : x ∈ codes k j (wide k j) := by
            have h := HL.out _ hlx
            rw [HD.out.2 x] at h
            exact of_decide_eq_true h
          have hc : c = (Digit.fact (j - k) : Nat) := by
            have h := hat (.lit (.int .i64 0))
            rw [HD.out.1 x, HCT.out x hx] at h
            simp only [DataW.lit.injEq, Lit.int.injEq, true_and] at h
            exact h.symm
          have hb1 : Below w5.heap.size w5 w1 := HB.out.grown hg1 HB.out.size (fun q hq => by cases hq; exact Nat.le_refl _)
          have cK := cell_blk (i := 0) (keep_blk hb1 HKN5.out.1) rfl
          have cN := cell_blk (i := 0) (keep_blk hb1 HKN5.out.2) rfl
          have HR1 := Lib.hid hrg1
          have HB1 := Lib.hid hb1
          have HC1 := Lib.hid hlt1
          have HL1 : Hid (∀ kl, (left kl && !kl.sameKey (.int .i64 x)) = true → Maps.has D kl = true) := Lib.hid (fun kl h => HL.out kl (by rw [Bool.and_eq_true] at h; exact h.1))
          generalize Digit.fact (j - k) = Fc at *
          subst hc
          have t2 : ((Fc : Int) != (Fc : Int)) = false := by simp
          clear hwx hwc hlx hat hrg1 hlt1 hg1 hs1 hb1 hx HCT
          go_wp2_with fail
          refine (F.out _).mono ?_
          rintro e w8 ⟨rfl, rfl⟩
          go_wp2_with fail
          go_roundg cnt1
          case measure => have h1 := HG.out; have h2 := HC1.out; omega
          case rel => exact ⟨_, cnt1, Lib.hid (Nat.le_refl _), HR1, HL1, HB1⟩

/-! ### THE ROW's STEP: WRITTEN OUT: LEAVE IT -/
set_option maxRecDepth 100000 in
theorem lifted (os : Os) (started : os.Started) (H : Type) (enc : TypeId × Value → H) :
    ReturnsInHanded {} Try.checked os 7 .any (Rows.pondAllSpec.pre6 enc Try.prog Try.f7 Rows.pondAllRow.domain false) (Rows.pondAllSpec.post enc Try.prog Try.f7 false true false false) := by
  refine returnsInHanded_of_change (C := Try.checked) own started (by kernel_rfl) Try.func7
    (ChangeSpec.witness6 (enc := enc) (C := Try.checked) false ⟨#[], #[.int .i64 0, .int .i64 0], []⟩ 8 (by kernel_rfl) (by kernel_rfl) (by kernel_rfl) (by kernel_rfl)) ?_
  intro W base args ds gs before hval0 hW hcnd _
  have hval : ∀ (j : Nat) t v, Try.f7.params[j]? = some t → args[j]? = some v → Value.okWide Try.prog W .any base t v := hval0
  have hW' := hW
  obtain ⟨p, q, hA0, hV, rfl, hfz, hnd⟩ := hW
  have hA : DataW.TrodAll enc Try.prog W 0 (fun _ => true) true Try.f7.params.toList args.toList ds p := hA0
  rw [Try.params7] at hA hval
  obtain ⟨v0, vs0, d0, ds0, p0, q0, hargs, rfl, rfl, h0, r0⟩ := trodAll_cons hA
  obtain ⟨v1, vs1, d1, ds1, p1, q1, rfl, rfl, rfl, h1, r1⟩ := trodAll_cons r0
  obtain ⟨rfl, rfl, rfl⟩ := trodAll_nil r1
  obtain rfl : args = #[v0, v1] := by cases args; simp_all
  obtain ⟨rfl, rfl⟩ := trodVars_none hV
  obtain ⟨a0, rfl, rfl, rfl, w0⟩ := open_int Try.underlying3 (hval 0 3 v0 rfl rfl) h0
  obtain ⟨a1, rfl, rfl, rfl, w1⟩ := open_int Try.underlying3 (hval 1 3 v1 rfl rfl) h1
  clear hA0 hval0
  simp only [List.append_nil] at hW'
  refine (walk a0 a1 w0 w1 W).mono fun e W' ⟨he, hg⟩ => ?_
  subst he
  exact ⟨_, rfl, _, _, _, [], _, [], hW', (trodAll_cons_mk (shut_bool Try.underlying4 _) trodAll_mk0), (trodAll_cons_mk (shut_int Try.underlying3 w0) (trodAll_cons_mk (shut_int Try.underlying3 w1) trodAll_mk0)), rfl, hg.frame _, fun h => by cases h⟩

theorem over : Rows.pondAllRow.holds Try.pinned (OpenSpec.ofChange Rows.pondAllSpec) :=
  OpenClaim.holds_of_wide 7 Try.f7 rfl rfl rfl rfl rfl rfl rfl ⟨rfl, rfl, rfl, rfl, rfl⟩ rfl rfl rfl rfl rfl (by kernel_rfl) Try.func7 (by kernel_rfl)
    (of_decide_eq_true (by kernel_rfl)) (by unfold Func.isWrapper; first | (rw [if_pos (by decide +kernel)]; kernel_rfl) | (rw [if_neg (by decide +kernel)]; exact ⟨rfl, rfl⟩))
    (fun os started H enc _ => lifted os started H enc)

/-- ████ THE STATEMENT ████ -/
theorem proved : Rows.PondAllSaid :=
  over
#print axioms proved
end Go.Proofs.Ytfndahcihmpmhaa.pondAll
