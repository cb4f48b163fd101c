/-
  'Rows.TopDrawsSaid' is proved: picks by running sums and picks of a table are equally frequent, and a reservoir fed with draws of the generator holds items that came. No condition.
-/
import Derived.Test.YteddoccgbebbeabRows
import Derived.Test.YteddoccgbebbeabShapes
import Derived.Test.YteddoccgbebbeabTopMath
import Derived.Test.YteddoccgbebbeabTopSum
import Derived.Test.YteddoccgbebbeabNextOne
import Derived.Test.YteddoccgbebbeabDrawsHold
import Derived.Test.YteddoccgbebbeabDigitOrder
import Derived.Test.YteddoccgbebbeabRepeatZero
import Derived.Test.YteddoccgbebbeabEqualInts
import Derived.Test.YteddoccgbebbeabLit
import Derived.Test.YteddoccgbebbeabWeightsMath
import Derived.Test.YteddoccgbebbeabAliasPick
import Derived.Test.YteddoccgbebbeabCumPick
import Derived.Test.YteddoccgbebbeabAliasMake
import Derived.Test.YteddoccgbebbeabSubSlice
import Derived.Deep.DeepCutAuto
import Derived.Deep.LoopGhost
import Derived.Deep.RegionWith
import Derived.StillTailTactics
import Derived.WalkKit
import Derived.ProofKit
import Derived.OpenShut
import Derived.ShutString
import Derived.ChangeOld
import Derived.Below
namespace Go.Proofs.Yteddoccgbebbeab.topDraws
open Go.ChangeShapes Go.WideShapes Go.ChangeAt Go.RowKit
open Go.ChangeMaps (open_string shut_string)
set_option linter.unusedVariables false

theorem own : ownKnob Try.prog.godebug = none := by kernel_rfl
theorem laidOut : laidOutB Try.prog = true := by kernel_rfl

open Cum Top
theorem o21 : Digit.orderOf 2 1 = [1, 0] := by decide
set_option maxHeartbeats 1000000 in
theorem begun_any (w : World) : Calls Try.prog 6 #[] w fun e w' => e = .returned (.bool true) ∧ Below w.heap.size w w' := by
  have C0 := order_ok 2 1 (by decide) (by decide) w
  rw [o21] at C0
  have C0 := Lib.hid C0
  go_enter Try.func6, Try.ntmps6
  go_wp2_with fail
  refine C0.out.mono ?_
  rintro e v1 ⟨s1, rfl, hO1, hb1⟩
  obtain ⟨q1, cap1, rfl, hT1⟩ := hO1.tab
  have E1 := Lib.hid (equal_ints q1 (some ⟨v1.heap.size, 0, none⟩) 2 cap1 2 2 [1, 0] [1, 0] (v1.alloc (.cells #[.int .i64 1, .int .i64 0] 3)) (hT1.below ((Below.refl _ _).alloc (Nat.le_refl _) _)) (tab_lit v1 3 1 2 ([(1 : Int), 0].map iC) #[.int .i64 1, .int .i64 0] rfl rfl (rows_of iC_len _) (by decide) _ rfl) true (by simp))
  have HB1 := Lib.hid (hb1.alloc hb1.size (.cells #[.int .i64 1, .int .i64 0] 3))
  clear hb1 hO1 hT1 C0
  go_wp2_with fail
  refine E1.out.mono ?_
  rintro e v2 ⟨rfl, hb2⟩
  go_wp2
  go_ret
  exact ⟨rfl, below_on HB1.out hb2⟩
theorem i64_wf {z : Int} (h1 : -9223372036854775808 ≤ z) (h2 : z ≤ 9223372036854775807) : (Lit.int .i64 z).wf = true := by
  simp [Lit.wf, IntKind.min, IntKind.max, IntKind.bits, IntKind.signed]; omega
theorem lawI : Maps.Keyed Try.prog 3 := Maps.int_keyed Try.underlying3
theorem zeroB (w : World) : (zeroValue 4).run Try.prog w = .ok (.bool false) w := by kernel_rfl
theorem keyI (z : Int) (h : -9223372036854775808 ≤ z ∧ z ≤ 9223372036854775807) : keyOf Try.prog 3 (.int .i64 z) = some (.int .i64 z) := Maps.keyOf_int_mk (P := Try.prog) Try.underlying3 (i64_wf h.1 h.2)
theorem pick_in {A : Int} {O R : List Int} {c p : Nat} (hE : aliasE A O R = 0) (hc : c < O.length) (hcr : c < R.length) (hp : (p : Int) < A) (hr : 0 ≤ Walker.g R c) : pickP A O R c p = (((pk O R c p : Nat) : Int), (0 : Int)) := by
  obtain ⟨o, ho⟩ : ∃ y, O[c]? = some y := ⟨_, List.getElem?_eq_getElem hc⟩
  obtain ⟨r, hrr⟩ : ∃ y, R[c]? = some y := ⟨_, List.getElem?_eq_getElem hcr⟩
  rw [Walker.g_some hrr] at hr
  unfold pickP pk
  rw [if_neg (fun h => h hE), if_neg (by omega), Int.toNat_natCast, List.getD_eq_getElem?_getD, List.getD_eq_getElem?_getD, ho, hrr, Walker.g_some ho, Walker.g_some hrr]
  simp only [Option.getD_some]
  by_cases e : (p : Int) < o
  · rw [if_pos e, if_pos e]
  · rw [if_neg e, if_neg e, Int.toNat_of_nonneg hr]
/-- what stands of the items when j have been offered -/
def Good (k j : Nat) (L : List Int) : Prop := L.length = min k j ∧ ∀ x ∈ L, 0 ≤ x ∧ x < (j : Int)
theorem good_next {k j d : Nat} {L : List Int} (h : Good k j L) (hk : 1 ≤ k) : Good k (j + 1) (pondL k j L j d) := by
  obtain ⟨h1, h3⟩ := h
  refine ⟨by rw [pondL_len]; split <;> omega, fun x hx => ?_⟩
  have hmem : x = (j : Int) ∨ x ∈ L := by
    unfold pondL at hx
    split at hx
    · rcases List.mem_append.1 hx with h | h
      · exact Or.inr h
      · exact Or.inl (List.mem_singleton.1 h)
    · split at hx
      · rcases List.mem_or_eq_of_mem_set hx with h | h
        · exact Or.inr h
        · exact Or.inl h
      · exact Or.inr hx
  rcases hmem with h | h
  · omega
  · have := h3 x h; omega
theorem sum14 : ∀ l : List Int, (∀ x ∈ l, 0 ≤ x ∧ x ≤ 14) → l.sum ≤ (l.length : Int) * 14 := by
  intro l
  induction l with
  | nil => intro _; simp
  | cons x l ih =>
    intro h
    have h1 := ih (fun y hy => h y (List.mem_cons_of_mem _ hy))
    have h2 := h x (by simp)
    rw [List.sum_cons, List.length_cons]
    omega

set_option maxRecDepth 100000 in
set_option maxHeartbeats 2000000 in
theorem walk (x0 : Sl Int) (x1 : Int) (w : World) (t0 : Tab w x0.a x0.len x0.cap 1 (x0.l.map iC)) (b0 : x0.len * 8 ≤ 140737488351232) (o0 : ∀ z ∈ x0.l, wfI z) (w1 : (Lit.int .u64 x1).wf = true) :
    Calls Try.prog 3 #[.slice x0.a x0.len x0.cap, .int .u64 x1] w fun e w' => e = .returned (.bool true) ∧ Below w.heap.size w w' := by
  obtain ⟨a, len, cap, L0⟩ := x0
  have hm := t0.hmax
  have hle := t0.hle
  unfold maxLen at hm
  have hL := t0.hlen
  rw [List.length_map] at hL
  have hL' : L0.length = len := hL
  have HT := Lib.hid t0
  have HO := Lib.hid o0
  have HL := Lib.hid hL'
  obtain ⟨st0, hst, hstM⟩ := wf_u64 w1
  subst hst
  clear t0 b0 o0 w1 hL hL'
  go_enter Try.func3, Try.ntmps3
  go_wp2_with fail
  refine (begun_any _).mono ?_
  rintro e v1 ⟨rfl, hb1⟩
  have HB1 := Lib.hid hb1
  clear hb1
  obtain ⟨n, hn⟩ : ∃ n, min len 8 = n := ⟨_, rfl⟩
  have hn1 : n ≤ len := by omega
  have hn2 : n ≤ 8 := by omega
  have rU := run_upto 22 3 1 Try.underlying22 elem_int5 size_int5 a len cap n (by omega)
  have hO1 : Own (v1.alloc (.cells #[.int .i64 1] 3)) v1.heap.size 3 1 (.slice (some ⟨v1.heap.size, 0, none⟩) 1 1) ((weightsM 14 (L0.take 0)).map iC) :=
    Own.full (World.ownsRow_lit v1 #[.int .i64 1] 1 (Nat.le_refl _) (by decide) rfl) (by refine ⟨rfl, rfl, ?_⟩; intro r hr; simp [weightsM, iC] at hr; subst hr; rfl)
  have HO1 := Lib.hid hO1
  have HB1' : Hid (Below v1.heap.size v1 (v1.alloc (.cells #[.int .i64 1] 3))) := Lib.hid ((Below.refl _ _).alloc (Nat.le_refl _) _)
  clear hO1
  go_upto_region 4 with fail
  go_cut [30, 31, 32] (fun s t i wx => s = .slice a n cap ∧ t = .int .i64 n ∧ i = .int .i64 0 ∧ wx = v1.alloc (.cells #[.int .i64 1] 3))
  case first =>
    by_cases h9 : len ≤ 8
    · obtain rfl : n = len := by omega
      clear hn
      go_wp2_with fail
      go_meet
      case rel => exact ⟨congrArg (fun t => Value.slice a t cap) (by omega), congrArg (Value.int IntKind.i64) (by omega), rfl, rfl⟩
    · obtain rfl : n = 8 := by omega
      have h9' : 8 < len := by omega
      clear hn h9
      go_wp2_with fail
      go_meet
      case rel => exact ⟨congrArg (fun t => Value.slice a t cap) (by omega), congrArg (Value.int IntKind.i64) (by omega), rfl, rfl⟩
  case rest =>
  obtain ⟨rfl, rfl, rfl, rfl⟩ := hcut
  clear rU hn
  go_wp2_with fail
  go_loopg [5, 32] n (fun g v i wr => ∃ k : Nat, k + g = n ∧ i = .int .i64 k ∧ Hid (Own wr v1.heap.size 3 1 v ((weightsM 14 (L0.take k)).map iC)) ∧ Hid (Below v1.heap.size v1 wr))
  case atStart => exact ⟨0, by omega, rfl, HO1, HB1'⟩
  case round =>
    clear HO1 HB1'
    obtain ⟨k, hk0, rfl, HV, HB⟩ := hrel
    have HJ := Lib.hid hk0
    have hk : k ≤ n := by omega
    clear hk0
    by_cases hlt : k < n
    · obtain ⟨x, hx⟩ : ∃ x, L0[k]? = some x := ⟨_, List.getElem?_eq_getElem (by rw [HL.out]; omega)⟩
      obtain ⟨b1, o1, ha, hbs, c0⟩ := HT.out.one (below_on HB1.out HB.out) (map_get hx)
      have hwx := wf_i64 (HO.out x (List.mem_of_getElem? hx))
      have HW := Lib.hid (fun w => within_int x 15 w hwx (by omega) (by omega))
      have HN := weightsM_take (m := 14) hx
      rw [show (14 : Int) + 1 = 15 from rfl] at HN
      have HN := Lib.hid HN
      have HVL : Hid (((weightsM 14 (L0.take k)).map iC).length ≤ 40) := Lib.hid (by rw [List.length_map, weightsM_len, List.length_take]; omega)
      subst ha
      clear hx
      generalize withI x 15 = y at *
      go_wp2_with fail
      refine (HW.out _).mono ?_
      rintro e w2 ⟨rfl, rfl⟩
      go_wp2_with (at_builtin; refine wpList_append_rows _ rfl _ _ 22 rfl v1.heap.size 3 _ 1 8 Try.underlying22 info_int rfl (by decide) _ ((weightsM 14 (L0.take k)).map iC) rfl (HV.out.alloc _) ⟨wr.heap.size, 0, none⟩ 1 1 [iC y] rfl rfl (by simp [iC]) (one_row wr (iC y) 3 _ rfl) (by simp [iC, Value.oneCell']) (by have := HVL.out; omega) (by decide) (Nat.le_trans HB.out.size (by simp)) ?_; intro v6 w6 hO6 hg6)
      go_roundg (n - (k + 1))
      case measure => have := HJ.out; omega
      case rel =>
        refine ⟨k + 1, by omega, by go_num, ?_, ?_⟩
        · rw [HN.out, List.map_append]; exact Lib.hid hO6
        · exact Lib.hid ((HV.out.alloc _).under (HB.out.alloc HB.out.size _) (Nat.le_refl _) (Nat.le_trans HB.out.size (by simp)) hg6)
    · obtain rfl : k = n := by omega
      obtain ⟨q, capq, rfl, hTq⟩ := HV.out.tab
      have HWL : Hid ((weightsM 14 (L0.take k)).length = k + 1) := Lib.hid (by rw [weightsM_len, List.length_take, HL.out]; omega)
      have hE := weightsM_ok (m := 14) (by decide) (by decide) (l := L0.take k) (by rw [List.length_take]; omega)
      have HWB := Lib.hid (weightsM_bd (m := 14) (by decide) (l := L0.take k))
      have HPS := Lib.hid (weightsM_pos (m := 14) (by decide) (by decide) (l := L0.take k))
      generalize weightsM 14 (L0.take k) = WL at *
      rw [List.length_map, HWL.out] at hTq ⊢
      obtain ⟨nn, hnn⟩ : ∃ nn, k + 1 = nn := ⟨_, rfl⟩
      rw [hnn] at hTq HWL ⊢
      have hnn9 : nn ≤ 9 := by omega
      have hnn1 : 1 ≤ nn := by omega
      have HWr := Lib.hid (below_on HB1.out HB.out)
      have hz : ∀ x ∈ WL, 0 ≤ x ∧ x ≤ 1000000000000 := fun x hx => by have := HWB.out x hx; omega
      have hz0 : ∀ x ∈ WL, 0 ≤ x := fun x hx => (hz x hx).1
      have bA := sum14 WL HWB.out
      rw [HWL.out] at bA
      obtain ⟨PA, hPA⟩ := Int.eq_ofNat_of_zero_le (show 0 ≤ WL.sum by have := HPS.out; omega)
      have bA2 : PA ≤ 126 := by omega
      have bA1 : 1 ≤ PA := by have := HPS.out; omega
      have C2 := make_ok q nn capq WL wr hTq hE
      have HTQ := Lib.hid hTq
      have HLN : Hid ((Walker.table WL).own.length = nn ∧ (Walker.table WL).rest.length = nn) := Lib.hid (by have := Walker.table_lens hE; rw [HWL.out] at this; exact this)
      have HOK := Walker.table_ok hE
      have HCOL : Hid (∀ i, i < nn → (0 ≤ Walker.g (Walker.table WL).own i ∧ Walker.g (Walker.table WL).own i ≤ (PA : Int)) ∧ 0 ≤ Walker.g (Walker.table WL).rest i ∧ Walker.g (Walker.table WL).rest i < (nn : Int)) := Lib.hid (fun i hi => by have := Walker.table_cols hE i (by rw [HWL.out]; exact hi); rw [HWL.out, hPA] at this; exact ⟨this.1, this.2.1⟩)
      have HSH : ∀ j, j < nn → (sharesTo PA (Walker.table WL).own (Walker.table WL).rest nn nn)[j]? = some (Walker.g WL j * (nn : Int)) := fun j hj => by have := Walker.table_share hE (j := j) (by rw [HWL.out]; exact hj); rw [HWL.out, hPA] at this; exact this
      have HTWO := Lib.hid (two_all (A := PA) (n := nn) (W := WL) (fun i hi => ⟨(HCOL.out i hi).1, (HCOL.out i hi).2.1⟩) HLN.out.1 HLN.out.2 HWL.out (by omega) HSH)
      have HONE := Lib.hid (oneL_all hz0 hPA.symm HWL.out)
      have HSM := Lib.hid (fun (W : World) (hW : Tab W q nn capq 1 (WL.map iC)) => topSum_any q nn capq WL W hW (by omega) hz)
      have HPK := Lib.hid (fun (p : Nat) (hp : (p : Int) < WL.sum) (W : World) (hT : Tab W q nn capq 1 (WL.map iC)) => cumPick_ok q nn capq WL p W hT hE (by omega) hp)
      have HPL := Lib.hid (fun (p : Nat) (hp : (p : Int) < WL.sum) => place_lt (l := WL) (k := 1) (x := (p : Int)) (by omega) (by omega))
      rw [HWL.out] at HPL
      rw [hPA] at HSM HPK HPL C2 HOK
      have C2 := Lib.hid C2
      have HOK := Lib.hid HOK
      generalize (Walker.table WL).own = TO at *
      generalize (Walker.table WL).rest = TR at *
      clear hTq HV HJ hk hlt hE hz hz0 bA hPA HSH HB HT HO HL HWB HPS hnn hn1 hn2
      go_wp2_with fail
      refine C2.out.mono ?_
      rintro e v4 ⟨O, R, rfl, hM4, hb4⟩
      have hba : Below v4.heap.size v4 (v4.alloc (.cells #[.int .i64 (PA : Int), .slice (some ⟨O, 0, none⟩) nn nn, .slice (some ⟨R, 0, none⟩) nn nn] 27)) := (Below.refl _ _).alloc (Nat.le_refl _) _
      have HTO := Lib.hid (((hM4.own _ (List.mem_cons_self ..)).below hba).tab_of)
      have HTR := Lib.hid (((hM4.own _ (List.mem_cons_of_mem _ (List.mem_cons_self ..))).below hba).tab_of)
      have HTL := Lib.hid (HTQ.out.below (below_on hb4 hba))
      have HW0 := Lib.hid (below_on HWr.out (below_on hb4 hba))
      have HX4 : Hid ((v4.alloc (.cells #[.int .i64 (PA : Int), .slice (some ⟨O, 0, none⟩) nn nn, .slice (some ⟨R, 0, none⟩) nn nn] 27)).heap[v4.heap.size]? = some (.cells #[.int .i64 (PA : Int), .slice (some ⟨O, 0, none⟩) nn nn, .slice (some ⟨R, 0, none⟩) nn nn] 27 (0, 0))) := Lib.hid (MapKept.heap_alloc v4 _).1
      clear hM4 hb4 hba C2 HTQ HWr
      generalize hW0 : v4.alloc (.cells #[.int .i64 (PA : Int), .slice (some ⟨O, 0, none⟩) nn nn, .slice (some ⟨R, 0, none⟩) nn nn] 27) = W0 at *
      have HWE := Lib.hid hW0
      generalize hXX : v4.heap.size = X at *
      have C5 := Lib.hid (repeat_zero (some ⟨W0.heap.size, 0, none⟩) 1 nn (W0.alloc (.cells #[.int .i64 0] 3)) (tab_lit W0 3 1 1 ([(0 : Int)].map iC) #[.int .i64 0] rfl rfl (rows_of iC_len _) (by decide) _ rfl) hnn1 (by omega))
      go_wp2_with fail
      clear hW0 hXX HWE
      refine C5.out.mono ?_
      rintro e v5 ⟨rfl, hO5, hb5⟩
      have hs0 : (W0.alloc (.cells #[.int .i64 0] 3)).heap.size = W0.heap.size + 1 := by simp
      rw [hs0] at hO5 ⊢
      have hb5w : Below W0.heap.size W0 v5 := below_on ((Below.refl _ _).alloc (Nat.le_refl _) _) hb5
      have hlt5 := (hO5.own.lt (W0.heap.size + 1) rfl).2
      have HO5 := Lib.hid (hO5.base_le (Nat.le_succ W0.heap.size))
      have HB5 := Lib.hid hb5w
      have HG1 : Hid (W0.heap.size < W0.heap.size + 1) := Lib.hid (Nat.lt_succ_self _)
      generalize hGG1 : W0.heap.size + 1 = G1 at *
      clear hO5 hb5 hb5w hs0 hGG1 C5
      have C6 := Lib.hid (repeat_zero (some ⟨v5.heap.size, 0, none⟩) 1 nn (v5.alloc (.cells #[.int .i64 0] 3)) (tab_lit v5 3 1 1 ([(0 : Int)].map iC) #[.int .i64 0] rfl rfl (rows_of iC_len _) (by decide) _ rfl) hnn1 (by omega))
      go_wp2_with fail
      refine C6.out.mono ?_
      rintro e v6 ⟨rfl, hO6, hb6⟩
      have hs6 : (v5.alloc (.cells #[.int .i64 0] 3)).heap.size = v5.heap.size + 1 := by simp
      rw [hs6] at hO6 ⊢
      have hb6w : Below v5.heap.size v5 v6 := below_on ((Below.refl _ _).alloc (Nat.le_refl _) _) hb6
      have hlt6 := (hO6.own.lt (v5.heap.size + 1) rfl).2
      have HO6 := Lib.hid (hO6.base_le (Nat.le_trans HB5.out.size (Nat.le_succ v5.heap.size)))
      have HO56 := Lib.hid (HO5.out.below hb6w)
      have HB6 := Lib.hid (below_on HB5.out hb6w)
      have hG12 : G1 < v5.heap.size + 1 := by omega
      generalize hGG2 : v5.heap.size + 1 = G2 at *
      have hmm := @run_makeMap Try.prog
      have HD0 : Hid (Draws W0 ((v6.alloc (.cells #[.int .i64 3, .int .i64 0, .slice none 0 0] 33)).alloc (.map #[] 0)) G1 G2 v6.heap.size (v6.heap.size + 1) nn (oneL WL nn 0) (tally (fun t => pk TO TR (t % nn) (t / nn)) nn (0 * nn)) ((0 : Nat) : Int) (.slice none 0 0) [] [] 0) := by
        refine Lib.hid ⟨?_, ?_, ((PVar.new (w := W0) (wr := v6) 3 0 HB6.out).alloc _), ?_, by omega, by omega, hlt6, by omega, by simp [Value.ownBlock]⟩
        · rw [oneL_zero]; exact (HO56.out.alloc _).alloc _
        · rw [Nat.zero_mul, tally_zero]; exact (HO6.out.alloc _).alloc _
        · have := ownsInts_made Try.prog 3 4 (v6.alloc (.cells #[.int .i64 3, .int .i64 0, .slice none 0 0] 33))
          rw [show (v6.alloc (.cells #[.int .i64 3, .int .i64 0, .slice none 0 0] 33)).heap.size = v6.heap.size + 1 from by simp] at this
          exact this
      clear hO6 hb6 hb6w hs6 hGG2 C6 hlt5 hlt6 hG12 HO5 HO6 HO56 HB5 HB6 HG1
      go_wp2_with fail
      clear hmm
      generalize hW7 : (v6.alloc (.cells #[.int .i64 3, .int .i64 0, .slice none 0 0] 33)).alloc (.map #[] 0) = W7 at *
      generalize hMM : v6.heap.size + 1 = MB at *
      generalize hBB : v6.heap.size = B at *
      clear hW7 hMM hBB
      refine (HSM.out _ (HTL.out.below HD0.out.pv.bel)).mono ?_
      rintro e w8 ⟨rfl, hw8⟩
      rw [hw8]
      clear hw8
      go_wp2_with fail
      go_loopg [1, 61] PA (fun g s i wr => ∃ (j st : Nat) (v : Value) (L ks : List Int), j + g = PA ∧ i = .int .i64 j ∧ s = .int .u64 st ∧ st < MixMath.M ∧ Hid (Draws W0 wr G1 G2 B MB nn (oneL WL nn j) (tally (fun t => pk TO TR (t % nn) (t / nn)) nn (j * nn)) (j : Int) v L ks j) ∧ Hid (Good 3 j L) ∧ Hid (∀ z : Int, z ∈ ks ↔ 0 ≤ z ∧ z < (j : Int)))
      case atStart => exact ⟨0, st0, _, [], [], by omega, rfl, rfl, hstM, HD0, Lib.hid ⟨by simp, by simp⟩, Lib.hid (fun z => by simp <;> omega)⟩
      case round =>
        clear HD0
        obtain ⟨j, st, v, L, ks, hj0, rfl, rfl, hst, HD, HG, HKS⟩ := hrel
        have HJ := Lib.hid hj0
        have hj : j ≤ PA := by omega
        clear hj0
        obtain ⟨wo, hwo⟩ : ∃ wo, wo = wr := ⟨_, rfl⟩
        subst hwo
        by_cases hlt : j < PA
        · have C7 := Lib.hid (HPK.out j (by omega) wo (HTL.out.below HD.out.pv.bel))
          have hI := HPL.out j (by omega)
          obtain ⟨z, hz⟩ : ∃ z, (oneL WL nn j)[place WL 1 (j : Int)]? = some z := ⟨_, List.getElem?_eq_getElem (by rw [oneL_len]; exact hI)⟩
          have hzb := oneL_mem (List.mem_of_getElem? hz)
          have hjn : (j : Int) * (nn : Int) ≤ (j : Int) * 9 := Int.mul_le_mul_of_nonneg_left (by omega) (by omega)
          have z0 := hzb.1
          have z1 : z ≤ 1134 := by omega
          have HZS := Lib.hid (oneL_succ hz)
          have HZ := Lib.hid hz
          generalize place WL 1 (j : Int) = I at *
          clear hz hzb hjn
          go_wp2_with fail
          refine C7.out.mono ?_
          rintro e w8 ⟨rfl, hb8⟩
          have hD8 := HD.out.below hb8
          obtain ⟨d1, d2, _, _⟩ := hD8.o1.at1 (map_get HZ.out)
          have hD9 := hD8.set1 HZ.out (z + nn)
          rw [HZS.out] at hD9
          have HD9 := Lib.hid hD9
          clear hD8 hD9 hb8 C7 HD
          go_wp2_with fail
          generalize w8.setCell { block := G1, off := I } (Value.int IntKind.i64 (z + nn)) = w9 at *
          clear d1 d2 HZ HZS
          go_loopg [82] nn (fun g i wr => ∃ c : Nat, c + g = nn ∧ i = .int .i64 c ∧ Hid (Draws W0 wr G1 G2 B MB nn (oneL WL nn (j + 1)) (tally (fun t => pk TO TR (t % nn) (t / nn)) nn (j * nn + c)) (j : Int) v L ks j))
          case atStart => exact ⟨0, by omega, rfl, HD9⟩
          case round =>
            clear HD9
            obtain ⟨c, hc0, rfl, HD⟩ := hrel
            have HC := Lib.hid hc0
            have hc : c ≤ nn := by omega
            clear hc0
            obtain ⟨wi, hwi⟩ : ∃ wi, wi = wr := ⟨_, rfl⟩
            subst hwi
            by_cases hcl : c < nn
            · have C8 := pick_any PA (some ⟨O, 0, none⟩) (some ⟨R, 0, none⟩) nn nn nn nn TO TR c j wi (HTO.out.below HD.out.pv.bel) (HTR.out.below HD.out.pv.bel)
              rw [pick_in HOK.out (by rw [HLN.out.1]; exact hcl) (by rw [HLN.out.2]; exact hcl) (by omega) (HCOL.out c hcl).2.1] at C8
              unfold aliasV at C8
              have C8 := Lib.hid C8
              obtain ⟨⟨c0, c1, c2⟩, _, _, _⟩ := alias_cells (kept_blk HD.out.pv.bel HX4.out)
              have hK : pk TO TR c j < nn := by
                unfold pk
                split
                · exact hcl
                · have := (HCOL.out c hcl).2; omega
              have HKK : Hid (pk TO TR c j = (fun t => pk TO TR (t % nn) (t / nn)) (j * nn + c)) := Lib.hid (by
                simp only
                rw [Nat.mul_comm j nn, Nat.mul_add_mod, Nat.mod_eq_of_lt hcl, Nat.mul_add_div (by omega), Nat.div_eq_of_lt hcl, Nat.add_zero])
              generalize pk TO TR c j = KI at *
              obtain ⟨y, hy⟩ : ∃ y, (tally (fun t => pk TO TR (t % nn) (t / nn)) nn (j * nn + c))[KI]? = some y := ⟨_, List.getElem?_eq_getElem (by rw [tally_len]; exact hK)⟩
              have by_ := tally_mem (List.mem_of_getElem? hy)
              have hjn : j * nn ≤ j * 9 := Nat.mul_le_mul_left _ hnn9
              have y0 := by_.1
              have y1 : y ≤ 1200 := by omega
              have HY := Lib.hid hy
              have HYS : Hid ((tally (fun t => pk TO TR (t % nn) (t / nn)) nn (j * nn + c)).set KI (y + 1) = tally (fun t => pk TO TR (t % nn) (t / nn)) nn (j * nn + c + 1)) := Lib.hid (by rw [HKK.out] at hy ⊢; exact tally_succ hy)
              clear hy by_ hjn
              go_wp2_with fail
              refine C8.out.mono ?_
              rintro e w10 ⟨rfl, hb10⟩
              have hD10 := HD.out.below hb10
              obtain ⟨d1, d2, _, _⟩ := hD10.o2.at1 (map_get HY.out)
              have hD11 := hD10.set2 HY.out (y + 1)
              rw [HYS.out] at hD11
              have HD11 := Lib.hid hD11
              clear hD10 hD11 hb10 C8 HD c0 c1 c2
              go_wp2_with fail
              go_roundg (nn - (c + 1))
              case measure => have := HC.out; omega
              case rel => exact ⟨c + 1, by omega, by go_num, by rw [← Nat.add_assoc]; exact HD11⟩
            · obtain rfl : c = nn := by omega
              have hD := HD.out
              rw [← Nat.succ_mul] at hD
              have HDN := Lib.hid hD
              have HKJ := Lib.hid (keyI j (by omega))
              clear HD hD
              go_wp2_with fail
              refine (next_any st hst _).mono ?_
              rintro e w12 ⟨rfl, rfl⟩
              have hs2 := stepN_lt st
              have hmx : MixMath.mixN (stepN st) < 18446744073709551616 := MixMath.mixN_lt _
              generalize stepN st = st2 at *
              generalize MixMath.mixN st2 = nx at *
              go_wp2_with (at_mapUpdate; refine wpList_putInt _ rfl _ _ _ 34 rfl 3 4 lawI Try.underlying34 Try.underlying4 MB j ks rfl HDN.out.mp (by unfold maxLen; omega) (j : Int) rfl rfl HKJ.out ?_; intro w13 hI13 hg13; have HD13 := Lib.hid (HDN.out.putM hI13 hg13); clear hI13 hg13)
              obtain ⟨al, lcap, hv, hTl⟩ := HD13.out.pv.own.tab
              subst hv
              rw [List.length_map] at hTl
              obtain ⟨nl, hnl⟩ : ∃ nl, L.length = nl := ⟨_, rfl⟩
              have HLM : Hid (nl = min 3 j) := Lib.hid (hnl.symm.trans HG.out.1)
              have hj126 : j ≤ 126 := by omega
              have hLl : (L.map iC).length = nl := by rw [List.length_map, hnl]
              rw [hLl] at HD13
              rw [hnl] at hTl
              have HTL2 := Lib.hid hTl
              obtain ⟨⟨c0, c1, c2⟩, f0, f1, f2⟩ := pond_cells HD13.out.pv.blk
              clear hTl hLl
              have hne : ¬ ((j : Int) + 1 = 0) := by omega
              have hnb : (((j : Int) + 1) == 0) = false := by rw [beq_eq_false_iff_ne]; omega
              obtain ⟨D, hD⟩ : ∃ D : Nat, nx % (j + 1) = D := ⟨_, rfl⟩
              have hDj : D ≤ j := by have := Nat.mod_lt nx (show 0 < j + 1 by omega); omega
              have q1 : IntKind.i64.wrap ((j : Int) + 1) = (j : Int) + 1 := by rw [IntKind.wrap_i64]; omega
              have q2 : IntKind.u64.wrap ((j : Int) + 1) = (j : Int) + 1 := by rw [IntKind.wrap_u64]; omega
              have q3 : ((nx : Int)).tmod ((j : Int) + 1) = (D : Int) := by
                rw [Int.tmod_eq_emod_of_nonneg (by omega), ← hD, Int.natCast_emod]; rfl
              have q4 : IntKind.u64.wrap (D : Int) = (D : Int) := by rw [IntKind.wrap_u64]; omega
              have q5 : IntKind.i64.wrap (D : Int) = (D : Int) := by rw [IntKind.wrap_i64]; omega
              clear hD hmx
              have HD14 := Lib.hid (HD13.out.below (Below.refl _ _).drew)
              have hE : putE 3 j nl D = 0 := by
                have hlm := HLM.out
                by_cases h : j < 3
                · rw [show nl = j from by omega]; exact putE_part (by decide) (by decide) h (by omega) (by omega)
                · rw [show nl = 3 from by omega]; exact putE_full (by decide) (by decide) (Int.ofNat_le.2 (show 3 ≤ j by omega)) (by omega) (by omega) (by omega)
              have C14 := put_ok 3 j al nl lcap L j D w13.drew (HTL2.out.below (Below.refl _ _).drew) hE
              unfold pondV at C14
              have C14 := Lib.hid C14
              have hMB : MB < w13.heap.size := HD13.out.mp.lt
              have HGN := Lib.hid (good_next (d := D) HG.out (by decide))
              generalize pondL 3 j L j D = L2 at *
              clear hE hnl
              go_region_with (first | (go_at_call 14; (try simp only [q1, q2, q3, q4, q5]); refine C14.out.mono ?_; rintro e w15 ⟨s15, rfl, hO15, hb15⟩; obtain ⟨q15, c15, rfl, hT15⟩ := hO15.tab; obtain ⟨⟨e0, e1, e2⟩, r0, r1, r2⟩ := pond_cells (HD14.out.below hb15).pv.blk))
              all_goals
                have hD15 := HD14.out.below hb15
                have hD16 := hD15.setP (S' := (j : Int) + 1) hO15 hMB
                have HD16 := Lib.hid hD16
                clear hD15 hD16 hO15 hT15 hb15 e0 e1 e2 r0 r1 r2
                go_wp2_with fail
                rw [List.length_map] at HD16
                go_roundg (PA - (j + 1))
                case measure => have := HJ.out; omega
                case rel => exact ⟨j + 1, st2, _, L2, (j : Int) :: ks, by omega, by go_num, rfl, hs2, by rw [show ((j + 1 : Nat) : Int) = (j : Int) + 1 from by omega]; exact HD16, HGN, Lib.hid (fun z => by rw [List.mem_cons, HKS.out z]; omega)⟩
        · obtain rfl : j = PA := by omega
          obtain ⟨al, lcap, hv, hTl⟩ := HD.out.pv.own.tab
          subst hv
          rw [List.length_map] at hTl
          obtain ⟨nl, hnl⟩ : ∃ nl, L.length = nl := ⟨_, rfl⟩
          have HLM : Hid (nl = min 3 j) := Lib.hid (hnl.symm.trans HG.out.1)
          have hLl : (L.map iC).length = nl := by rw [List.length_map, hnl]
          rw [hLl] at HD
          rw [hnl] at hTl
          have HTL2 := Lib.hid hTl
          have HNL := Lib.hid hnl
          have hnl3 : nl ≤ 3 := by have := HLM.out; omega
          obtain ⟨⟨c0, c1, c2⟩, f0, f1, f2⟩ := pond_cells HD.out.pv.blk
          clear hTl hLl hnl HJ hj hlt HPK HPL HCOL HLN HOK HX4 HTO HTR
          go_wp2_with fail
          clear c0 c1 c2 f0 f1 f2
          go_loopg [126] nl (fun g i wr => ∃ m : Nat, m + g = nl ∧ i = .int .i64 m ∧ wr = wo)
          case atStart => exact ⟨0, by omega, rfl, rfl⟩
          case round =>
            obtain ⟨m, hm0, rfl, rfl⟩ := hrel
            have HM := Lib.hid hm0
            have hm3 : m ≤ nl := by omega
            clear hm0
            by_cases hml : m < nl
            · obtain ⟨y, hy⟩ : ∃ y, L[m]? = some y := ⟨_, List.getElem?_eq_getElem (by rw [HNL.out]; exact hml)⟩
              obtain ⟨b1, o1, ha, hbs, cy⟩ := HTL2.out.one (Below.refl _ _) (map_get hy)
              have hyb := HG.out.2 y (List.mem_of_getElem? hy)
              have hin : y ∈ ks := (HKS.out y).2 hyb
              have hlook := HD.out.mp.look lawI Try.underlying34 Try.underlying4 (zeroB _) (keyI y (by omega))
              rw [decide_eq_true hin] at hlook
              subst ha
              clear hy hyb hin
              go_wp2_with fail
              go_roundg (nl - (m + 1))
              case measure => have := HM.out; omega
              case rel => exact ⟨m + 1, by omega, by go_num, rfl⟩
            · obtain rfl : m = nl := by omega
              have ho1 := HD.out.o1
              have ho2 := HD.out.o2
              rw [HONE.out] at ho1
              rw [HTWO.out] at ho2
              obtain ⟨wf, hwf⟩ : ∃ wf, wf = wr := ⟨_, rfl⟩
              subst hwf
              have CE := Lib.hid (equal_ints (some ⟨G1, 0, none⟩) (some ⟨G2, 0, none⟩) nn nn nn nn _ _ wf.drew (ho1.tab_of.below (Below.refl _ _).drew) (ho2.tab_of.below (Below.refl _ _).drew) true (by simp))
              have HDd := Lib.hid (HD.out.below (Below.refl _ _).drew)
              have HBF := Lib.hid (below_on HW0.out HDd.out.pv.bel)
              clear ho1 ho2 HM hm3 hml
              go_upto_region 43 with fail
              go_cut [4] (fun s wx => s = .bool true ∧ Hid (Below w.heap.size w wx))
              case first =>
                go_region_with (first
                  | (go_at_call 15; refine CE.out.mono ?_; rintro e w17 ⟨rfl, hb17⟩; obtain ⟨⟨c0, c1, c2⟩, f0, f1, f2⟩ := pond_cells (HDd.out.below hb17).pv.blk; have HB17 := Lib.hid hb17)
                  | (go_at_call 10; refine (HSM.out _ (HTL.out.below ((HDd.out.below HB17.out).pv.bel))).mono ?_; rintro e w18 ⟨rfl, hw18⟩; rw [hw18]; clear hw18))
                all_goals
                  go_wp2_with fail
                  go_meet
                  case rel => exact ⟨congrArg Value.bool (by rw [beq_iff_eq]; have := HLM.out; omega), Lib.hid (below_on HBF.out HB17.out)⟩
              case rest =>
              obtain ⟨rfl, HBE⟩ := hcut
              go_wp2
              go_ret
              exact ⟨rfl, HBE.out⟩

set_option maxRecDepth 100000 in
theorem lifted (os : Os) (started : os.Started) (H : Type) (enc : TypeId × Value → H) :
    ReturnsInHanded {} Try.checked os 3 .any (Rows.topDrawsSpec.pre6 enc Try.prog Try.f3 Rows.topDrawsRow.domain false) (Rows.topDrawsSpec.post enc Try.prog Try.f3 false true false false) := by
  refine returnsInHanded_of_change_sized (C := Try.checked) own started (by kernel_rfl) Try.func3
    (ChangeSpec.witness6 (enc := enc) (C := Try.checked) false ⟨#[], #[.slice none 0 0, .int .u64 0], []⟩ 8 (by kernel_rfl) (by kernel_rfl) (by kernel_rfl) (by kernel_rfl)) ?_
  intro W base args ds gs before hval0 hW hcnd hsz0 _
  have hval : ∀ (j : Nat) t v, Try.f3.params[j]? = some t → args[j]? = some v → Value.okWide Try.prog W .any base t v := hval0
  have hW' := hW
  obtain ⟨p, q, hA0, hV, rfl, hfz, hnd⟩ := hW
  have hA : DataW.TrodAll enc Try.prog W 0 (fun _ => true) true Try.f3.params.toList args.toList ds p := hA0
  have hsz : (DataW.weightsEach Try.prog (Try.f3.params.toList ++ Rows.topDrawsSpec.plain.varTypes Try.prog) (ds ++ gs)).all (· ≤ reachBytes) = true := hsz0
  rw [Try.params3] at hA hval hsz
  obtain ⟨v0, vs0, d0, ds0, p0, q0, hargs, rfl, rfl, h0, r0⟩ := trodAll_cons hA
  obtain ⟨v1, vs1, d1, ds1, p1, q1, rfl, rfl, rfl, h1, r1⟩ := trodAll_cons r0
  obtain ⟨rfl, rfl, rfl⟩ := trodAll_nil r1
  obtain rfl : args = #[v0, v1] := by cases args; simp_all
  obtain ⟨rfl, rfl⟩ := trodVars_none hV
  have k0 := h0
  have L0 := light_of hsz (j := 0) (t := 22) (d := d0) rfl rfl
  have lt0 : ∀ x ∈ p0, x.block < W.heap.size := by obtain ⟨m, hm⟩ := k0; exact DataW.trod_lt m _ _ _ hm
  obtain ⟨a0, len0, cap0, rfl⟩ := okWide_slice Try.underlying22 (hval 0 22 v0 rfl rfl)
  obtain ⟨n0, f0⟩ := trod_slice_of Try.underlying22 h0
  have F0 := And.intro f0 L0
  obtain ⟨x0, e0, t0, b0, o0⟩ := el_slice (w := W) (k := 1) iC wfI (by decide) Try.underlying22 (by kernel_rfl) (el_int Try.underlying3) (B := 8) (by kernel_rfl) _ _ _ F0.1 F0.2
  simp only [slC, List.cons.injEq, Value.slice.injEq, and_true] at e0
  obtain ⟨rfl, rfl, rfl⟩ := e0
  have k1 := h1
  have L1 := light_of hsz (j := 1) (t := 23) (d := d1) rfl rfl
  have lt1 : ∀ x ∈ p1, x.block < W.heap.size := by obtain ⟨m, hm⟩ := k1; exact DataW.trod_lt m _ _ _ hm
  obtain ⟨x1, rfl, rfl, rfl, w1⟩ := open_int Try.underlying23 (hval 1 23 v1 rfl rfl) h1
  clear hA0 hval0
  refine (walk x0 x1 W t0 b0 o0 w1).mono fun e W' ⟨he, hg⟩ => ?_
  subst he
  exact ⟨_, rfl, _, _, _, [], _, [], hW', trodAll_mk1 (shut_bool Try.underlying4 _), (trodAll_cons_mk (Below.trod laidOut (by kernel_rfl) (of_decide_eq_true (by kernel_rfl)) k0 hg lt0) (trodAll_cons_mk (Below.trod laidOut (by kernel_rfl) (of_decide_eq_true (by kernel_rfl)) k1 hg lt1) trodAll_mk0)), rfl, hg.frame _, fun h => by cases h⟩

theorem over : Rows.topDrawsRow.holds Try.pinned (OpenSpec.ofChange Rows.topDrawsSpec) :=
  OpenClaim.holds_of_wide 3 Try.f3 rfl rfl rfl rfl rfl rfl rfl ⟨rfl, rfl, rfl, rfl, rfl⟩ rfl rfl rfl rfl rfl (by kernel_rfl) Try.func3 (by kernel_rfl)
    (of_decide_eq_true (by kernel_rfl)) (by unfold Func.isWrapper; first | (rw [if_pos (by decide +kernel)]; kernel_rfl) | (rw [if_neg (by decide +kernel)]; exact ⟨rfl, rfl⟩))
    (fun os started H enc _ => lifted os started H enc)

/-- ████ THE STATEMENT ████ -/
theorem proved : Rows.TopDrawsSaid :=
  over
#print axioms proved
end Go.Proofs.Yteddoccgbebbeab.topDraws
