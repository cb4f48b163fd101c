/-
  'Rows.EstSpreadsSaid' is proved: over all draws of their own, the square of how far the estimate is from the total is in the mean the spread. No condition.
-/
import Derived.Test.YtfocmnjkoominaaRows
import Derived.Test.YtfocmnjkoominaaShapes
import Derived.Test.YtfocmnjkoominaaEstSpread
import Derived.Test.YtfocmnjkoominaaSpreadEach
import Derived.Test.YtfocmnjkoominaaWorth
import Derived.Deep.DeepCutAuto
import Derived.BigQuiet
import Derived.WalkKit
import Derived.ProofKit
import Derived.OpenShut
import Derived.ShutString
import Derived.ChangeOld
import Derived.Below
namespace Go.Proofs.Ytfocmnjkoominaa.estSpreads
open Go.ChangeShapes Go.WideShapes Go.ChangeAt Go.RowKit
open Go.ChangeMaps (open_string shut_string)
set_option linter.unusedVariables false

theorem own : ownKnob Try.prog.godebug = none := by kernel_rfl
theorem laidOut : laidOutB Try.prog = true := by kernel_rfl

open Est Span
theorem lit_spreads : spreadR [3, 2] [1, 2] = 21 ∧ spreadE [3, 2] [1, 2] = 0 := by decide +kernel
theorem lits_two (w : World) (n : Nat) (a b : List Int) (ca cb : Array Value) (ha : ca.toList = (a.map iC).flatten) (hb : cb.toList = (b.map iC).flatten) (la : a.length = n) (lb : b.length = n) (hn : n ≤ 40) :
    Tab ((w.alloc (.cells ca 3)).alloc (.cells cb 3)) (some ⟨w.heap.size, 0, none⟩) n n 1 (a.map iC) ∧
    Tab ((w.alloc (.cells ca 3)).alloc (.cells cb 3)) (some ⟨w.heap.size + 1, 0, none⟩) n n 1 (b.map iC) ∧
    Below w.heap.size w ((w.alloc (.cells ca 3)).alloc (.cells cb 3)) := by
  have hm : n ≤ maxLen := by unfold maxLen; omega
  refine ⟨?_, ?_, ?_⟩
  · exact (tab_lit w 3 1 n (a.map iC) ca ha (by rw [List.length_map]; exact la) (rows_of iC_len _) hm _ rfl).below ((Below.refl _ _).alloc (Nat.le_refl _) _)
  · exact tab_lit (w.alloc (.cells ca 3)) 3 1 n (b.map iC) cb hb (by rw [List.length_map]; exact lb) (rows_of iC_len _) hm _ (by simp)
  · exact ((Below.refl _ _).alloc (Nat.le_refl _) _).alloc (by simp) _
theorem held_on {w1 w2 : World} {b : Nat} {o : Obj} (hb : Below w1.heap.size w1 w2) (h : w1.heap[b]? = some o) : w2.heap[b]? = some o :=
  (hb.block b (Array.getElem?_eq_some_iff.1 h).1).trans h
theorem two_laid (w : World) (o o' : Obj) : ((w.alloc o).alloc o').heap[w.heap.size]? = some o := by
  rw [Below.heap_alloc _ _ _ (by simp)]
  exact (MapKept.heap_alloc w _).1
theorem next_laid (w : World) (cs cs' : Array Value) (t t' : TypeId) : ((w.alloc (.cells cs t)).alloc (.cells cs' t')).heap[w.heap.size + 1]? = some (.cells cs' t' (0, 0)) := by
  have := (MapKept.heap_alloc (w.alloc (.cells cs t)) (.cells cs' t')).1
  simpa using this
theorem spread_listTo {f g : Nat → Int} {n : Nat} (hn : n ≤ 3) (hf : ∀ i, -1000 ≤ f i ∧ f i ≤ 1000) (hg : ∀ i, 0 ≤ g i ∧ g i ≤ 3) : spreadE (listTo f n) (listTo g n) = 0 ∧ spreadR (listTo f n) (listTo g n) = sumTo (fun i => wide (f i) (g i)) n ∧ 0 ≤ sumTo (fun i => wide (f i) (g i)) n ∧ sumTo (fun i => wide (f i) (g i)) n ≤ 21000000 := by
  have hw : ∀ i, 0 ≤ wide (f i) (g i) ∧ wide (f i) (g i) ≤ 7000000 := fun i => by
    have h1 := Eight.sqr_bd (y := f i) (by have := hf i; omega) (by have := hf i; omega)
    have h2 : 2 ^ (g i).toNat ≤ 2 ^ 3 := Nat.pow_le_pow_right (by decide) (by have := hg i; omega)
    have h3 : 0 < 2 ^ (g i).toNat := Nat.pow_pos (by decide)
    have h4 : f i * f i ≤ 1000000 := by
      have := hf i
      rcases Int.le_total 0 (f i) with h | h
      · have := Int.mul_le_mul_of_nonneg_right (show f i ≤ 1000 by omega) h; omega
      · have h2 : (-(f i)) * (-(f i)) ≤ 1000 * (-(f i)) := Int.mul_le_mul_of_nonneg_right (by omega) (by omega)
        rw [Int.neg_mul_neg] at h2
        omega
    unfold wide
    generalize f i * f i = s at *
    generalize 2 ^ (g i).toNat = p at *
    have a1 : s * ((p : Int) - 1) ≤ 1000000 * ((p : Int) - 1) := Int.mul_le_mul_of_nonneg_right h4 (by omega)
    exact ⟨Int.mul_nonneg h1.1 (by omega), by omega⟩
  have hb0 := sumTo_le (f := fun _ => 0) (g := fun i => wide (f i) (g i)) (n := n) (fun i _ => (hw i).1)
  have hb1 := sumTo_le (f := fun i => wide (f i) (g i)) (g := fun _ => 7000000) (n := n) (fun i _ => (hw i).2)
  rw [sumTo_zero] at hb0
  rw [Eight.sumTo_const] at hb1
  have hi := items_listTo (f := f) (g := g) (n := n) (by omega) (fun i _ => by have := hf i; omega) (fun i _ => by have := hg i; omega)
  have hall : (listTo f n).all okM = true := List.all_eq_true.2 (fun x hx => by obtain ⟨i, _, rfl⟩ := listTo_mem hx; exact okM_iff.2 (by have := hf i; omega))
  have hE : spreadE (listTo f n) (listTo g n) = 0 := by
    unfold spreadE
    rw [if_pos hi, if_pos hall, listTo_len, wideTo_listTo f g n n (Nat.le_refl _), if_neg (by omega)]
  refine ⟨hE, ?_, hb0, by omega⟩
  unfold spreadR
  rw [if_pos hE, listTo_len, wideTo_listTo f g n n (Nat.le_refl _)]
def boundL (n k : Nat) : List Int := List.replicate k 8 ++ List.replicate (n - k) 0
theorem boundL_at {n k : Nat} (h : k < n) : (boundL n k)[k]? = some 0 ∧ (boundL n k).set k 8 = boundL n (k + 1) := by
  unfold boundL
  constructor
  · rw [List.getElem?_append_right (by simp), List.length_replicate, Nat.sub_self, List.getElem?_replicate, if_pos (by omega)]
  · obtain ⟨d, rfl⟩ : ∃ d, n = k + 1 + d := ⟨n - (k + 1), by omega⟩
    rw [show k + 1 + d - k = d + 1 by omega, show k + 1 + d - (k + 1) = d by omega, List.set_append_right _ _ (by simp), List.length_replicate, Nat.sub_self, List.replicate_succ, List.set_cons_zero, List.replicate_succ' (n := k), List.append_assoc]
    rfl
theorem boundL_zero (n : Nat) : boundL n 0 = List.replicate n 0 := by simp [boundL]
theorem boundL_all (n : Nat) : boundL n n = List.replicate n 8 := by simp [boundL]

set_option maxRecDepth 100000 in
set_option maxHeartbeats 2000000 in
theorem walk (x0 : Sl Int) (x1 : Sl Int) (w : World) (t0 : Tab w x0.a x0.len x0.cap 1 (x0.l.map iC)) (b0 : x0.len * 8 ≤ 140737488351232) (o0 : ∀ z ∈ x0.l, wfI z) (t1 : Tab w x1.a x1.len x1.cap 1 (x1.l.map iC)) (b1 : x1.len * 8 ≤ 140737488351232) (o1 : ∀ z ∈ x1.l, wfI z) :
    Calls Try.prog 4 #[.slice x0.a x0.len x0.cap, .slice x1.a x1.len x1.cap] w fun e w' => e = .returned (.bool true) ∧ Below w.heap.size w w' := by
  obtain ⟨a, len, cap, L⟩ := x0
  obtain ⟨a2, len2, cap2, Q⟩ := x1
  obtain ⟨i0, hi, hz0, hz1, hz2⟩ := info_parts info_int
  have HI := Lib.hid (And.intro hi (And.intro hz0 (And.intro hz1 hz2)))
  obtain ⟨l1, l2, hb0⟩ := lits_two w 2 [3, 2] [1, 2] #[.int .i64 3, .int .i64 2] #[.int .i64 1, .int .i64 2] rfl rfl rfl rfl (by decide)
  have C0 := spread_any _ _ 2 2 2 2 [3, 2] [1, 2] _ l1 l2
  rw [lit_spreads.1, lit_spreads.2] at C0
  have C0 := Lib.hid C0
  have HB0 := Lib.hid hb0
  have CW := Lib.hid (fun W (hb : Below w.heap.size w W) => worth_any a a2 len cap len2 cap2 L Q 3 3 W (t0.below hb) (t1.below hb) (fun z hz => o0 z hz) (fun z hz => o1 z hz) (by decide) (by decide) (by decide))
  obtain ⟨n, hn⟩ : ∃ n, min len 3 = n := ⟨_, rfl⟩
  rw [hn] at CW
  have hn3 : n ≤ 3 := by omega
  clear t0 o0 t1 o1 l1 l2 hb0 hn hi hz0 hz1 hz2
  have HF := Lib.hid (fun i => worthAt_bd L i)
  have HG : Hid (∀ i, 0 ≤ levelAt 3 Q i ∧ levelAt 3 Q i ≤ 3) := Lib.hid (fun i => levelAt_bd (by omega) Q i)
  generalize worthAt L = f at *
  generalize levelAt 3 Q = g at *
  obtain ⟨h1, h2, h3, h4⟩ := spread_listTo (f := f) (g := g) hn3 HF.out HG.out
  have HE := Lib.hid (And.intro h1 h2)
  have HALL := Lib.hid (Eight.far_all HG.out n (f := f))
  have hS := Eight.total_bd hn3 HF.out
  generalize sumTo (fun i => wide (f i) (g i)) n = V at *
  clear h1 h2
  go_enter Try.func4, Try.ntmps4
  go_wp2_with fail
  refine C0.out.mono ?_
  rintro e v1 ⟨rfl, hv1⟩
  rw [hv1] at HB0
  clear hv1 C0
  go_wp2_with fail
  refine (CW.out _ HB0.out).mono ?_
  rintro e v2 ⟨p, q, rfl, hM, hb2⟩
  have HB2 := Lib.hid (below_on HB0.out hb2)
  have hop := hM.at (v := p) (L := listTo f n) (by simp)
  have hoq := hM.at (v := q) (L := listTo g n) (by simp)
  obtain ⟨ap, cp, rfl, _⟩ := hop.tab
  obtain ⟨aq, cq, rfl, _⟩ := hoq.tab
  rw [List.length_map, listTo_len] at hop
  rw [List.length_map, listTo_len] at hoq
  rw [List.length_map, List.length_map, listTo_len, listTo_len]
  have hbx : Below v2.heap.size v2 ((v2.alloc (.cells #[.slice ap n cp] 22)).alloc (.cells #[.slice aq n cq] 22)) := ((Below.refl _ _).alloc (Nat.le_refl _) _).alloc (by simp) _
  have hcv := two_laid v2 (.cells #[.slice ap n cp] 22) (.cells #[.slice aq n cq] 22)
  have hcl := next_laid v2 #[.slice ap n cp] #[.slice aq n cq] 22 22
  have hO1 := (hop.base_le HB0.out.size).below hbx
  have hO2 := (hoq.base_le HB0.out.size).below hbx
  have hB4 := below_on HB2.out hbx
  obtain ⟨v4, hv4⟩ : ∃ v, (v2.alloc (.cells #[.slice ap n cp] 22)).alloc (.cells #[.slice aq n cq] 22) = v := ⟨_, rfl⟩
  rw [hv4] at hcv hcl hO1 hO2 hB4
  have hPl : w.heap.size ≤ v2.heap.size := HB2.out.size
  obtain ⟨PV, hPV⟩ : ∃ X, v2.heap.size = X := ⟨_, rfl⟩
  rw [hPV] at hcv hcl hPl
  have HCV := Lib.hid hcv
  have HCL := Lib.hid hcl
  have HO1 := Lib.hid hO1
  have HO2 := Lib.hid hO2
  have HB4 := Lib.hid hB4
  have C5 := spread_any ap aq n cp n cq (listTo f n) (listTo g n) v4 hO1.tab_of hO2.tab_of
  rw [HE.out.1, HE.out.2] at C5
  have C5 := Lib.hid C5
  have C8 := Lib.hid (keepSum_to ap n cp f v4 hO1.tab_of (by omega) (fun i _ => by have := HF.out i; omega))
  have HNP : Hid (∀ g, (Value.slice ap n cp).ownBlock = some g → g < v4.heap.size) := Lib.hid (fun g hg => (hO1.own.lt g hg).2)
  have HNQ : Hid (∀ g, (Value.slice aq n cq).ownBlock = some g → g < v4.heap.size) := Lib.hid (fun g hg => (hO2.own.lt g hg).2)
  clear hcv hcl hO1 hO2 hB4 hop hoq hM hb2 HB2 hbx CW HB0 HE
  go_upto_region 5 with fail
  try rw [hv4]
  try rw [hPV]
  clear hv4 hPV
  have d0 := cell_blk (i := 0) HCV.out rfl
  have d1 := cell_blk (i := 0) HCL.out rfl
  go_wp2_with fail
  refine C5.out.mono ?_
  rintro e v5 ⟨rfl, hv5⟩
  rw [← hv5]
  clear hv5 C5
  go_wp2_with fail
  refine C8.out.mono ?_
  rintro e v5 ⟨rfl, hv5⟩
  rw [← hv5]
  clear hv5 C8 d0 d1
  obtain ⟨S, hSS⟩ : ∃ S, sumTo f n = S := ⟨_, rfl⟩
  rw [hSS] at hS ⊢
  have HSS := Lib.hid hSS
  have hbx : Below v4.heap.size v4 ((v4.alloc (.cells #[.int .i64 S] 3)).alloc (.cells #[.int .i64 0] 3)) := ((Below.refl _ _).alloc (Nat.le_refl _) _).alloc (by simp) _
  have hcr := two_laid v4 (.cells #[.int .i64 S] 3) (.cells #[.int .i64 0] 3)
  have hcf := next_laid v4 #[.int .i64 S] #[.int .i64 0] 3 3
  have hcv := held_on hbx HCV.out
  have hcl := held_on hbx HCL.out
  have hO1 := HO1.out.below hbx
  have hO2 := HO2.out.below hbx
  have hB6 := below_on HB4.out hbx
  have hR0 : PV + 1 < v4.heap.size := (Array.getElem?_eq_some_iff.1 HCL.out).1
  obtain ⟨v6, hv6⟩ : ∃ v, (v4.alloc (.cells #[.int .i64 S] 3)).alloc (.cells #[.int .i64 0] 3) = v := ⟨_, rfl⟩
  have hs6 : v6.heap.size = v4.heap.size + 1 + 1 := by rw [← hv6]; simp
  rw [hv6] at hcr hcf hcv hcl hO1 hO2 hB6
  have hNP := HNP.out
  have hNQ := HNQ.out
  obtain ⟨RV, hRV⟩ : ∃ X, v4.heap.size = X := ⟨_, rfl⟩
  rw [hRV] at hcr hcf hR0 hs6 hNP hNQ
  have HCV := Lib.hid hcv
  have HCL := Lib.hid hcl
  have HCR := Lib.hid hcr
  have HCF := Lib.hid hcf
  have HO1 := Lib.hid hO1
  have HO2 := Lib.hid hO2
  have HB6 := Lib.hid hB6
  have HNP := Lib.hid hNP
  have HNQ := Lib.hid hNQ
  have HSZ := Lib.hid (And.intro hs6 (And.intro hR0 hPl))
  clear hcv hcl hcr hcf hO1 hO2 hB6 hbx hNP hNQ hR0 hs6 hPl hSS HB4
  have HV6 := Lib.hid (And.intro hv6 hRV)
  clear hv6 hRV
  go_upto_region 9 with fail
  rw [HV6.out.1, HV6.out.2]
  clear HV6
  have d0 := cell_blk (i := 0) HCV.out rfl
  go_wp2_with ((at_make; refine wpList_make_full _ rfl _ _ 22 rfl v6.heap.size 3 i0 (.int .i64 0) 1 Try.underlying22 HI.out.1 HI.out.2.1 HI.out.2.2.1 _ _ _ _ n rfl rfl rfl rfl (by rw [HI.out.2.2.2]; omega) (by unfold maxLen; omega) (Nat.le_refl _) ?_; intro v7 hO7 hg7))
  have hO := Own.full hO7 (made_ints n)
  rw [← boundL_zero] at hO
  have HO7 := Lib.hid hO
  have HB7 : Hid (Below v6.heap.size v6 v7) := Lib.hid ((Below.refl _ _).grown hg7 (Nat.le_refl _) (fun j hj => by cases hj))
  clear hO hO7 hg7 HI d0
  generalize hGG : v6.heap.size = G at HO7 HB7 ⊢
  have HGG := Lib.hid hGG
  clear hGG
  go_loopg [49] n (fun gg i wr => ∃ k : Nat, k + gg = n ∧ i = .int .i64 k ∧ Hid (Own wr G 3 1 (.slice (some ⟨G, 0, none⟩) n n) ((boundL n k).map iC)) ∧ Hid (Below G v6 wr))
  case atStart => exact ⟨0, by omega, rfl, HO7, HB7⟩
  case round =>
    clear HO7 HB7
    obtain ⟨k, hk0, rfl, HO, HB⟩ := hrel
    have HJ := Lib.hid hk0
    have hk : k ≤ n := by omega
    clear hk0
    by_cases hlt : k < n
    · obtain ⟨hm, hst⟩ := boundL_at hlt
      obtain ⟨c1, f1, p1, p1'⟩ := HO.out.at1 (map_get hm)
      have hO9 := HO.out.set1 (map_get (f := iC) hm) (.int .i64 8)
      rw [← show iC 8 = [Value.int .i64 8] from rfl, ← List.map_set, hst] at hO9
      have HO9 := Lib.hid hO9
      clear hm hst hO9
      go_wp2_with fail
      go_roundg (n - (k + 1))
      case measure => have := HJ.out; omega
      case rel => exact ⟨k + 1, by omega, by go_num, HO9, Lib.hid (HB.out.setCell (p := ⟨G, k, none⟩) (Nat.le_refl _) _)⟩
    · obtain rfl : k = n := by omega
      have hbw : Below v6.heap.size v6 wr := by rw [HGG.out]; exact HB.out
      obtain ⟨z1, z2, z3⟩ := HSZ.out
      have hGs := (HO.out.own.lt G rfl).2
      have hGe := HGG.out
      have hSI : SI w wr wr.heap.size PV (PV + 1) RV (RV + 1) (.slice ap k cp) (.slice aq k cq) (.slice (some ⟨G, 0, none⟩) k k) (listTo f k) (listTo g k) (List.replicate k 8) (sumTo f k) 0 := by
        refine ⟨held_on hbw HCV.out, held_on hbw HCL.out, ?_, held_on hbw HCF.out, HO1.out.below hbw, HO2.out.below hbw, ?_, ?_, ?_, ?_, Nat.le_refl _, by omega, by omega, below_on HB6.out hbw, by omega⟩
        · rw [HSS.out]; exact held_on hbw HCR.out
        · have h := HO.out
          rw [boundL_all] at h
          exact h.base_le (by have := HB6.out.size; omega)
        · intro g hg; have := HNP.out g hg; omega
        · intro g hg; have := HNQ.out g hg; omega
        · intro g hg
          obtain rfl : G = g := by simpa [Value.ownBlock] using hg
          omega
      have C9 := Lib.hid (spreadEach_any w wr wr.heap.size PV (PV + 1) RV (RV + 1) k _ _ _ _ f g hn3 HF.out HG.out hSI)
      clear hSI hbw z1 z2 z3 hGs hGe HO HB HCV HCL HCR HCF HO1 HO2 HB6 HNP HNQ HSZ
      go_wp2_with fail
      refine C9.out.mono ?_
      rintro e v9 ⟨rfl, hI⟩
      have HII := Lib.hid hI
      clear hI C9
      have d0 := cell_blk (i := 0) HII.out.cv rfl
      have d1 := cell_blk (i := 0) HII.out.cf rfl
      rw [HALL.out] at d1
      obtain ⟨FA, hFA⟩ : ∃ x, ((8 ^ k : Nat) : Int) * V = x := ⟨_, rfl⟩
      rw [hFA] at d1
      have HFA := Lib.hid hFA
      clear hFA
      have hk3 : k = 0 ∨ k = 1 ∨ k = 2 ∨ k = 3 := by omega
      have t1 : (FA == FA) = true := by simp
      go_wp2_with fail
      rcases hk3 with rfl | rfl | rfl | rfl
      · obtain rfl : FA = V := by have := HFA.out; omega
        go_quiet (fail)
        go_wp2
        go_ret
        exact ⟨rfl, below_drewN HII.out.bel _⟩
      · obtain rfl : FA = V * 8 := by have := HFA.out; omega
        go_quiet (fail)
        go_wp2
        go_ret
        exact ⟨rfl, below_drewN HII.out.bel _⟩
      · obtain rfl : FA = V * 64 := by have := HFA.out; omega
        go_quiet (fail)
        go_wp2
        go_ret
        exact ⟨rfl, below_drewN HII.out.bel _⟩
      · obtain rfl : FA = V * 512 := by have := HFA.out; omega
        go_quiet (fail)
        go_wp2
        go_ret
        exact ⟨rfl, below_drewN HII.out.bel _⟩

set_option maxRecDepth 100000 in
theorem lifted (os : Os) (started : os.Started) (H : Type) (enc : TypeId × Value → H) :
    ReturnsInHanded {} Try.checked os 4 .any (Rows.estSpreadsSpec.pre6 enc Try.prog Try.f4 Rows.estSpreadsRow.domain false) (Rows.estSpreadsSpec.post enc Try.prog Try.f4 false true false false) := by
  refine returnsInHanded_of_change_sized (C := Try.checked) own started (by kernel_rfl) Try.func4
    (ChangeSpec.witness6 (enc := enc) (C := Try.checked) false ⟨#[], #[.slice none 0 0, .slice none 0 0], []⟩ 8 (by kernel_rfl) (by kernel_rfl) (by kernel_rfl) (by kernel_rfl)) ?_
  intro W base args ds gs before hval0 hW hcnd hsz0 _
  have hval : ∀ (j : Nat) t v, Try.f4.params[j]? = some t → args[j]? = some v → Value.okWide Try.prog W .any base t v := hval0
  have hW' := hW
  obtain ⟨p, q, hA0, hV, rfl, hfz, hnd⟩ := hW
  have hA : DataW.TrodAll enc Try.prog W 0 (fun _ => true) true Try.f4.params.toList args.toList ds p := hA0
  have hsz : (DataW.weightsEach Try.prog (Try.f4.params.toList ++ Rows.estSpreadsSpec.plain.varTypes Try.prog) (ds ++ gs)).all (· ≤ reachBytes) = true := hsz0
  rw [Try.params4] at hA hval hsz
  obtain ⟨v0, vs0, d0, ds0, p0, q0, hargs, rfl, rfl, h0, r0⟩ := trodAll_cons hA
  obtain ⟨v1, vs1, d1, ds1, p1, q1, rfl, rfl, rfl, h1, r1⟩ := trodAll_cons r0
  obtain ⟨rfl, rfl, rfl⟩ := trodAll_nil r1
  obtain rfl : args = #[v0, v1] := by cases args; simp_all
  obtain ⟨rfl, rfl⟩ := trodVars_none hV
  have k0 := h0
  have L0 := light_of hsz (j := 0) (t := 22) (d := d0) rfl rfl
  have lt0 : ∀ x ∈ p0, x.block < W.heap.size := by obtain ⟨m, hm⟩ := k0; exact DataW.trod_lt m _ _ _ hm
  obtain ⟨a0, len0, cap0, rfl⟩ := okWide_slice Try.underlying22 (hval 0 22 v0 rfl rfl)
  obtain ⟨n0, f0⟩ := trod_slice_of Try.underlying22 h0
  have F0 := And.intro f0 L0
  obtain ⟨x0, e0, t0, b0, o0⟩ := el_slice (w := W) (k := 1) iC wfI (by decide) Try.underlying22 (by kernel_rfl) (el_int Try.underlying3) (B := 8) (by kernel_rfl) _ _ _ F0.1 F0.2
  simp only [slC, List.cons.injEq, Value.slice.injEq, and_true] at e0
  obtain ⟨rfl, rfl, rfl⟩ := e0
  have k1 := h1
  have L1 := light_of hsz (j := 1) (t := 22) (d := d1) rfl rfl
  have lt1 : ∀ x ∈ p1, x.block < W.heap.size := by obtain ⟨m, hm⟩ := k1; exact DataW.trod_lt m _ _ _ hm
  obtain ⟨a1, len1, cap1, rfl⟩ := okWide_slice Try.underlying22 (hval 1 22 v1 rfl rfl)
  obtain ⟨n1, f1⟩ := trod_slice_of Try.underlying22 h1
  have F1 := And.intro f1 L1
  obtain ⟨x1, e1, t1, b1, o1⟩ := el_slice (w := W) (k := 1) iC wfI (by decide) Try.underlying22 (by kernel_rfl) (el_int Try.underlying3) (B := 8) (by kernel_rfl) _ _ _ F1.1 F1.2
  simp only [slC, List.cons.injEq, Value.slice.injEq, and_true] at e1
  obtain ⟨rfl, rfl, rfl⟩ := e1
  clear hA0 hval0
  refine (walk x0 x1 W t0 b0 o0 t1 b1 o1).mono fun e W' ⟨he, hg⟩ => ?_
  subst he
  exact ⟨_, rfl, _, _, _, [], _, [], hW', trodAll_mk1 (shut_bool Try.underlying4 _), (trodAll_cons_mk (Below.trod laidOut (by kernel_rfl) (of_decide_eq_true (by kernel_rfl)) k0 hg lt0) (trodAll_cons_mk (Below.trod laidOut (by kernel_rfl) (of_decide_eq_true (by kernel_rfl)) k1 hg lt1) trodAll_mk0)), rfl, hg.frame _, fun h => by cases h⟩

theorem over : Rows.estSpreadsRow.holds Try.pinned (OpenSpec.ofChange Rows.estSpreadsSpec) :=
  OpenClaim.holds_of_wide 4 Try.f4 rfl rfl rfl rfl rfl rfl rfl ⟨rfl, rfl, rfl, rfl, rfl⟩ rfl rfl rfl rfl rfl (by kernel_rfl) Try.func4 (by kernel_rfl)
    (of_decide_eq_true (by kernel_rfl)) (by unfold Func.isWrapper; first | (rw [if_pos (by decide +kernel)]; kernel_rfl) | (rw [if_neg (by decide +kernel)]; exact ⟨rfl, rfl⟩))
    (fun os started H enc _ => lifted os started H enc)

/-- ████ THE STATEMENT ████ -/
theorem proved : Rows.EstSpreadsSaid :=
  over
#print axioms proved
end Go.Proofs.Ytfocmnjkoominaa.estSpreads
