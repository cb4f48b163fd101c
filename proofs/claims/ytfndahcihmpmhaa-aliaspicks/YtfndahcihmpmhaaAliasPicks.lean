/-
  'Rows.AliasPicksSaid' is proved: counting picks confirms the shares, and weight 0 is never picked. No condition.
-/
import Derived.Test.YtfndahcihmpmhaaRows
import Derived.Test.YtfndahcihmpmhaaShapes
import Derived.Test.YtfndahcihmpmhaaAliasMake
import Derived.Test.YtfndahcihmpmhaaPickCount
import Derived.Test.YtfndahcihmpmhaaKeepSum
import Derived.Test.YtfndahcihmpmhaaWeights
import Derived.Test.YtfndahcihmpmhaaLit
import Derived.Deep.DeepCutAuto
import Derived.WalkKit
import Derived.ProofKit
import Derived.OpenShut
import Derived.ShutString
import Derived.ChangeOld
import Derived.Below
namespace Go.Proofs.Ytfndahcihmpmhaa.aliasPicks
open Go.ChangeShapes Go.WideShapes Go.ChangeAt Go.RowKit
open Go.ChangeMaps (open_string shut_string)
set_option linter.unusedVariables false

theorem own : ownKnob Try.prog.godebug = none := by kernel_rfl
theorem laidOut : laidOutB Try.prog = true := by kernel_rfl

theorem p24 : pickP 4 [2, 4] [1, 1] 0 2 = (1, 0) := by decide
theorem pick_in {A : Int} {O R : List Int} {c p : Nat} {o : Int} {j : Nat} (hE : aliasE A O R = 0) (hc : c < O.length) (hp : (p : Int) < A) (ho : O[c]? = some o) (hr : R[c]? = some (j : Int)) : pickP A O R c p = (if (p : Int) < o then (c : Int) else (j : Int), 0) := by
  unfold pickP
  rw [if_neg (fun h => h hE), if_neg (by omega), Int.toNat_natCast, List.getD_eq_getElem?_getD, List.getD_eq_getElem?_getD, ho, hr]; rfl

set_option maxRecDepth 100000 in
set_option maxHeartbeats 2000000 in
theorem walk (x0 : Sl Int) (w : World) (t0 : Tab w x0.a x0.len x0.cap 1 (x0.l.map iC)) (b0 : x0.len * 8 ≤ 140737488351232) (o0 : ∀ z ∈ x0.l, wfI z) :
    Calls Try.prog 9 #[.slice x0.a x0.len x0.cap] w fun e w' => e = .returned (.bool true) ∧ Below w.heap.size w w' := by
  obtain ⟨a, len, cap, L⟩ := x0
  have hm := t0.hmax
  have hle := t0.hle
  unfold maxLen at hm
  have HT := Lib.hid t0
  have HO := Lib.hid o0
  clear t0 b0 o0
  have hb0 : Below w.heap.size w ((w.alloc (.cells #[.int .i64 2, .int .i64 4] 3)).alloc (.cells #[.int .i64 1, .int .i64 1] 3)) := ((Below.refl _ _).alloc (Nat.le_refl _) _).alloc (by simp) _
  have C0 := pick_any 4 (some ⟨w.heap.size, 0, none⟩) (some ⟨w.heap.size + 1, 0, none⟩) 2 2 2 2 [2, 4] [1, 1] 0 2 ((w.alloc (.cells #[.int .i64 2, .int .i64 4] 3)).alloc (.cells #[.int .i64 1, .int .i64 1] 3))
    ((tab_lit w 3 1 2 ([(2 : Int), 4].map iC) #[.int .i64 2, .int .i64 4] rfl rfl (rows_of iC_len _) (by decide) _ rfl).below ((Below.refl _ _).alloc (Nat.le_refl _) _)) (tab_lit (w.alloc (.cells #[.int .i64 2, .int .i64 4] 3)) 3 1 2 ([(1 : Int), 1].map iC) #[.int .i64 1, .int .i64 1] rfl rfl (rows_of iC_len _) (by decide) _ (by simp))
  rw [p24] at C0
  unfold aliasV at C0
  have C0 := Lib.hid C0
  go_enter Try.func9, Try.ntmps9
  go_wp2_with fail
  refine C0.out.mono ?_
  rintro e v1 ⟨rfl, hb1⟩
  have HB1 := Lib.hid (below_on hb0 hb1)
  clear C0 hb1 hb0
  obtain ⟨n, hn⟩ : ∃ n, min len 9 = n := ⟨_, rfl⟩
  have hn1 : n ≤ len := by omega
  have hn2 : n ≤ 9 := by omega
  have CW := Lib.hid (weights_any a n cap (L.take n) v1 (by have := HT.out.upto_ n hn1; rw [← List.map_take] at this; exact this.below HB1.out) (fun z hz => HO.out z (List.mem_of_mem_take hz)) hn2)
  have rU := run_upto 22 3 1 Try.underlying22 elem_int3 size_int3 a len cap n (by omega)
  have HWL : Hid ((weightsOf (L.take n)).length = n + 1) := Lib.hid (by rw [weightsOf_len, List.length_take]; have h := HT.out.hlen; rw [List.length_map] at h; have h' : L.length = len := h; omega)
  have HWE : Hid (weightsE (weightsOf (L.take n)) = 0) := Lib.hid (weightsOf_ok (by rw [List.length_take]; omega))
  have HWB := Lib.hid (weightsOf_bd (l := L.take n))
  generalize weightsOf (L.take n) = WL at *
  go_upto_region 4 with fail
  go_cut [0] (fun s wx => ∃ q capq, s = .slice q (n + 1) capq ∧ Hid (Tab wx q (n + 1) capq 1 (WL.map iC)) ∧ Hid (Below w.heap.size w wx))
  case first =>
    by_cases h9 : len ≤ 9
    · obtain rfl : n = len := by omega
      clear hn
      go_wp2_with fail
      refine CW.out.mono ?_
      rintro e v2 ⟨s2, rfl, hO2, hb2⟩
      obtain ⟨q2, cap2, rfl, hT2⟩ := hO2.tab
      rw [List.length_map, HWL.out] at hT2 ⊢
      go_wp2_with fail
      go_meet
      case rel => exact ⟨q2, cap2, rfl, Lib.hid hT2, Lib.hid (below_on HB1.out hb2)⟩
    · obtain rfl : n = 9 := by omega
      have h9' : 9 < len := by omega
      clear hn h9
      go_wp2_with fail
      refine CW.out.mono ?_
      rintro e v2 ⟨s2, rfl, hO2, hb2⟩
      obtain ⟨q2, cap2, rfl, hT2⟩ := hO2.tab
      rw [List.length_map, HWL.out] at hT2 ⊢
      go_wp2_with fail
      go_meet
      case rel => exact ⟨q2, cap2, rfl, Lib.hid hT2, Lib.hid (below_on HB1.out hb2)⟩
  case rest =>
  obtain ⟨q, capq, rfl, HTQ, HBC⟩ := hcut
  obtain ⟨wc, hwc⟩ : ∃ w', w' = wc := ⟨_, rfl⟩
  subst hwc
  obtain ⟨nn, hnn⟩ : ∃ nn, n + 1 = nn := ⟨_, rfl⟩
  rw [hnn] at HTQ HWL ⊢
  have hnn10 : nn ≤ 10 := by omega
  have hnn1 : 1 ≤ nn := by omega
  clear CW rU hn hn1 hn2 hnn HT HO HB1 hm hle
  have hE := HWE.out
  have C2 := Lib.hid (make_ok q nn capq WL wc HTQ.out hE)
  go_wp2_with fail
  refine C2.out.mono ?_
  rintro e v4 ⟨O, R, rfl, hM4, hb4⟩
  have hba : Below v4.heap.size v4 (v4.alloc (.cells #[.int .i64 WL.sum, .slice (some ⟨O, 0, none⟩) nn nn, .slice (some ⟨R, 0, none⟩) nn nn] 33)) := (Below.refl _ _).alloc (Nat.le_refl _) _
  have HB4 := Lib.hid (below_on (below_on HBC.out hb4) hba)
  have HTO := Lib.hid (((hM4.own _ (List.mem_cons_self ..)).below hba).tab_of)
  have HTR := Lib.hid (((hM4.own _ (List.mem_cons_of_mem _ (List.mem_cons_self ..))).below hba).tab_of)
  have HTL := Lib.hid (HTQ.out.below (below_on hb4 hba))
  have HX4 : Hid ((v4.alloc (.cells #[.int .i64 WL.sum, .slice (some ⟨O, 0, none⟩) nn nn, .slice (some ⟨R, 0, none⟩) nn nn] 33)).heap[v4.heap.size]? = some (.cells #[.int .i64 WL.sum, .slice (some ⟨O, 0, none⟩) nn nn, .slice (some ⟨R, 0, none⟩) nn nn] 33 (0, 0))) := Lib.hid (MapKept.heap_alloc v4 _).1
  have HLN : Hid ((Walker.table WL).own.length = nn ∧ (Walker.table WL).rest.length = nn) := Lib.hid (by have := Walker.table_lens hE; rw [HWL.out] at this; exact this)
  have HOK := Lib.hid (Walker.table_ok hE)
  have HCOL : Hid (∀ i, i < nn → (0 ≤ Walker.g (Walker.table WL).own i ∧ Walker.g (Walker.table WL).own i ≤ WL.sum) ∧ 0 ≤ Walker.g (Walker.table WL).rest i ∧ Walker.g (Walker.table WL).rest i < (nn : Int)) := Lib.hid (fun i hi => by have := Walker.table_cols hE i (by rw [HWL.out]; exact hi); rw [HWL.out] at this; exact ⟨this.1, this.2.1⟩)
  have HSH : Hid (∀ j, j < nn → (sharesTo WL.sum (Walker.table WL).own (Walker.table WL).rest nn nn)[j]? = some (Walker.g WL j * (nn : Int))) := Lib.hid (fun j hj => by have := Walker.table_share hE (j := j) (by rw [HWL.out]; exact hj); rwa [HWL.out] at this)
  have hz : ∀ x ∈ WL, 0 ≤ x ∧ x ≤ 1000000000000 := fun x hx => by have := HWB.out x hx; omega
  have HSM := Lib.hid (fun (W : World) (hW : Tab W q nn capq 1 (WL.map iC)) => keepSum_any q nn capq WL W hW (by omega) hz)
  have bA := sum_bd hz
  rw [HWL.out] at bA
  have bA1 := bA.1
  have bA2 : WL.sum ≤ 40000000000000 := by omega
  clear hM4 hb4 hba C2 hE HWE hz bA HTQ HBC
  generalize WL.sum = A at *
  generalize (Walker.table WL).own = TO at *
  generalize (Walker.table WL).rest = TR at *
  obtain ⟨PA, rfl⟩ := Int.eq_ofNat_of_zero_le bA1
  clear bA1
  obtain ⟨i0, hi, hz0, hz1, hz2⟩ := info_parts info_int
  have HI := Lib.hid (And.intro hi (And.intro hz0 (And.intro hz1 hz2)))
  clear hi hz0 hz1 hz2
  have HPK := Lib.hid (fun (c p : Int) (W : World) h1 h2 => pick_any PA (some ⟨O, 0, none⟩) (some ⟨R, 0, none⟩) nn nn nn nn TO TR c p W h1 h2)
  unfold aliasV at HPK
  have HOO : Hid (∀ (i : Nat) (o : Int), TO[i]? = some o → 0 ≤ o ∧ o ≤ (PA : Int)) := Lib.hid (fun i o ho => by have h1 := HCOL.out i (by have := (List.getElem?_eq_some_iff.1 ho).1; rw [HLN.out.1] at this; exact this); rw [Walker.g_some ho] at h1; exact h1.1)
  go_wp2_with (at_make; refine wpList_make_full _ rfl _ _ 22 rfl (v4.alloc (.cells #[.int .i64 (PA : Int), .slice (some ⟨O, 0, none⟩) nn nn, .slice (some ⟨R, 0, none⟩) nn nn] 33)).heap.size 3 i0 (.int .i64 0) 1 Try.underlying22 HI.out.1 HI.out.2.1 HI.out.2.2.1 _ _ _ _ nn rfl rfl rfl rfl (by rw [HI.out.2.2.2]; omega) (by unfold maxLen; omega) (Nat.le_refl _) ?_; intro w6 hO6 hg6)
  have hs4 : (v4.alloc (.cells #[.int .i64 (PA : Int), .slice (some ⟨O, 0, none⟩) nn nn, .slice (some ⟨R, 0, none⟩) nn nn] 33)).heap.size = v4.heap.size + 1 := by simp
  have HS0 := Own.full hO6 (made_ints nn)
  have HB6 := Lib.hid ((Below.refl _ _).grown hg6 (Nat.le_refl _) (fun j hj => by cases hj))
  generalize hW4 : v4.alloc (.cells #[.int .i64 (PA : Int), .slice (some ⟨O, 0, none⟩) nn nn, .slice (some ⟨R, 0, none⟩) nn nn] 33) = W4 at *
  clear hW4 hO6 hg6 HI
  rw [hs4] at HS0
  have HS0 : Hid (Own w6 (v4.heap.size + 1) 3 1 (.slice (some ⟨v4.heap.size + 1, 0, none⟩) nn nn) ((sharesTo PA TO TR nn 0).map iC)) := Lib.hid HS0
  have HS4 := Lib.hid hs4
  clear hs4
  generalize hG : v4.heap.size + 1 = G at *
  have hGX : v4.heap.size < G := by omega
  clear hG
  go_loopg [45] nn (fun g i wr => ∃ c : Nat, c + g = nn ∧ i = .int .i64 c ∧ Hid (Own wr G 3 1 (.slice (some ⟨G, 0, none⟩) nn nn) ((sharesTo PA TO TR nn c).map iC)) ∧ Hid (Below W4.heap.size W4 wr))
  case atStart => exact ⟨0, by omega, rfl, HS0, HB6⟩
  case round =>
    clear HS0 HB6
    obtain ⟨c, hc0, rfl, HS, HB⟩ := hrel
    have HJ := Lib.hid hc0
    have hc : c ≤ nn := by omega
    clear hc0
    obtain ⟨wo, hwo⟩ : ∃ wo, wo = wr := ⟨_, rfl⟩
    subst hwo
    by_cases hlt : c < nn
    · obtain ⟨o, ho⟩ : ∃ y, TO[c]? = some y := ⟨_, List.getElem?_eq_getElem (by rw [HLN.out.1]; exact hlt)⟩
      obtain ⟨r, hr⟩ : ∃ y, TR[c]? = some y := ⟨_, List.getElem?_eq_getElem (by rw [HLN.out.2]; exact hlt)⟩
      have hcol := HCOL.out c hlt
      rw [Walker.g_some ho, Walker.g_some hr] at hcol
      obtain ⟨⟨n1, n2⟩, n3, n4⟩ := hcol
      obtain ⟨j, rfl⟩ := Int.eq_ofNat_of_zero_le n3
      have hj : j < nn := by omega
      have HOC := Lib.hid (And.intro ho hr)
      have HBD := Lib.hid (fun (p : Nat) (hp : (p : Int) ≤ PA) => Walker.cnt_bd (R := TR) (n := nn) (c := c) (o := o) (r := j) (p := p) bA2 HOO.out (by rw [HLN.out.1]; exact hc) n1 hp)
      have HS1 : Hid (Own wo G 3 1 (.slice (some ⟨G, 0, none⟩) nn nn) ((Walker.cnt PA TO TR nn c o j 0).map iC)) := by rw [Walker.cnt_start n1 hlt hj]; exact HS
      have hc40 : (c : Int) * 80000000000000 + 80000000000000 ≤ 3200000000000000 := by omega
      clear ho hr n3 HS
      go_wp2_with fail
      refine (HSM.out _ (HTL.out.below HB.out)).mono ?_
      rintro e w7 ⟨rfl, rfl⟩
      go_wp2_with fail
      go_loopg [50] PA (fun g i wr => ∃ p : Nat, p + g = PA ∧ i = .int .i64 p ∧ Hid (Own wr G 3 1 (.slice (some ⟨G, 0, none⟩) nn nn) ((Walker.cnt PA TO TR nn c o j p).map iC)) ∧ Hid (Below W4.heap.size W4 wr))
      case atStart => exact ⟨0, by omega, rfl, HS1, HB⟩
      case round =>
        clear HS1 HB
        obtain ⟨p, hp0, rfl, HS, HB⟩ := hrel
        have HP := Lib.hid hp0
        have hp : p ≤ PA := by omega
        clear hp0
        obtain ⟨wi, hwi⟩ : ∃ wi, wi = wr := ⟨_, rfl⟩
        subst hwi
        by_cases hpl : p < PA
        · have C7 := HPK.out c p wi (HTO.out.below HB.out) (HTR.out.below HB.out)
          rw [pick_in HOK.out (by rw [HLN.out.1]; exact hlt) (by omega) HOC.out.1 HOC.out.2] at C7
          obtain ⟨⟨c0, c1, c2⟩, _, _, _⟩ := alias_cells (kept_blk HB.out HX4.out)
          by_cases hpo : (p : Int) < o
          · rw [if_pos hpo] at C7
            have C7 := Lib.hid C7
            obtain ⟨y, hy⟩ : ∃ y, (Walker.cnt PA TO TR nn c o j p)[c]? = some y := ⟨_, List.getElem?_eq_getElem (by rw [Walker.cnt_len]; exact hlt)⟩
            have by_ := HBD.out p (by omega) y (List.mem_of_getElem? hy)
            have by1 := by_.1
            have by2 := by_.2
            have by3 : y ≤ 3200000000000000 := by omega
            have HY := Lib.hid hy
            have HbA := Lib.hid bA2
            clear hy by_ by2 hc40 bA2
            go_wp2_with fail
            refine C7.out.mono ?_
            rintro e w8 ⟨rfl, hb8⟩
            have hS8 := HS.out.below hb8
            obtain ⟨d1, e1, p1, p1'⟩ := hS8.at1 (map_get HY.out)
            have hS9 := hS8.set1 (map_get HY.out) (.int .i64 (y + 1))
            rw [← show iC (y + 1) = [Value.int .i64 (y + 1)] from rfl, ← List.map_set, ← addAt_get 1 HY.out, Walker.cnt_own hlt hj hpo] at hS9
            have HS9 := Lib.hid hS9
            have HB9 := Lib.hid ((HB.out.trans (hb8.mono HB.out.size)).setCell (p := ⟨G, c, none⟩) (by rw [HS4.out]; exact Nat.le_refl _) (.int .i64 (y + 1)))
            clear c0 c1 c2 hS8 hS9 hb8 C7
            go_wp2_with fail
            go_roundg (PA - (p + 1))
            case measure => have := HP.out; omega
            case rel => exact ⟨p + 1, by omega, by have h1 := HbA.out; have h2 : wrap64 ((p : Int) + 1) = ((p + 1 : Nat) : Int) := (by unfold wrap64; omega); rw [h2], HS9, HB9⟩
          · rw [if_neg hpo] at C7
            have hpo' : o ≤ (p : Int) := by omega
            clear hpo
            have C7 := Lib.hid C7
            obtain ⟨y, hy⟩ : ∃ y, (Walker.cnt PA TO TR nn c o j p)[j]? = some y := ⟨_, List.getElem?_eq_getElem (by rw [Walker.cnt_len]; exact hj)⟩
            have by_ := HBD.out p (by omega) y (List.mem_of_getElem? hy)
            have by1 := by_.1
            have by2 := by_.2
            have by3 : y ≤ 3200000000000000 := by omega
            have HY := Lib.hid hy
            have HbA := Lib.hid bA2
            clear hy by_ by2 hc40 bA2
            go_wp2_with fail
            refine C7.out.mono ?_
            rintro e w8 ⟨rfl, hb8⟩
            have hS8 := HS.out.below hb8
            obtain ⟨d1, e1, p1, p1'⟩ := hS8.at1 (map_get HY.out)
            have hS9 := hS8.set1 (map_get HY.out) (.int .i64 (y + 1))
            rw [← show iC (y + 1) = [Value.int .i64 (y + 1)] from rfl, ← List.map_set, ← addAt_get 1 HY.out, Walker.cnt_rest hj hpo'] at hS9
            have HS9 := Lib.hid hS9
            have HB9 := Lib.hid ((HB.out.trans (hb8.mono HB.out.size)).setCell (p := ⟨G, j, none⟩) (by rw [HS4.out]; exact Nat.le_refl _) (.int .i64 (y + 1)))
            clear c0 c1 c2 hS8 hS9 hb8 C7
            go_wp2_with fail
            go_roundg (PA - (p + 1))
            case measure => have := HP.out; omega
            case rel => exact ⟨p + 1, by omega, by have h1 := HbA.out; have h2 : wrap64 ((p : Int) + 1) = ((p + 1 : Nat) : Int) := (by unfold wrap64; omega); rw [h2], HS9, HB9⟩
        · obtain rfl : p = PA := by omega
          have HS2 : Hid (Own wi G 3 1 (.slice (some ⟨G, 0, none⟩) nn nn) ((sharesTo p TO TR nn (c + 1)).map iC)) := by
            have h := HS.out
            rw [Walker.cnt_end rfl n2 HOC.out.1 HOC.out.2] at h
            exact Lib.hid h
          go_wp2_with fail
          go_roundg (nn - (c + 1))
          case measure => have := HJ.out; omega
          case rel => exact ⟨c + 1, by omega, by go_num, HS2, HB⟩
    · obtain rfl : c = nn := by omega
      have HTS := Lib.hid HS.out.tab_of
      have HTL7 := Lib.hid (HTL.out.below HB.out)
      clear HJ hc hlt
      go_wp2_with fail
      go_loopg [82] c (fun g i wr => ∃ k : Nat, k + g = c ∧ i = .int .i64 k ∧ wr = wo)
      case atStart => exact ⟨0, by omega, rfl, rfl⟩
      case round =>
        obtain ⟨k, hk0, rfl, rfl⟩ := hrel
        have HJ := Lib.hid hk0
        have hk : k ≤ c := by omega
        clear hk0
        by_cases hlt : k < c
        · obtain ⟨x, hx⟩ : ∃ x, WL[k]? = some x := ⟨_, List.getElem?_eq_getElem (by rw [HWL.out]; exact hlt)⟩
          have hs := HSH.out k hlt
          rw [Walker.g_some hx] at hs
          have bx := HWB.out x (List.mem_of_getElem? hx)
          have by1 : 0 ≤ x * (c : Int) := Int.mul_nonneg bx.1 (by omega)
          have by2 : x * (c : Int) ≤ 40000000000000 := by
            have h2 : x * (c : Int) ≤ 1000000000000 * (c : Int) := Int.mul_le_mul_of_nonneg_right (by omega) (by omega)
            omega
          obtain ⟨b1, o1, ha1, hbs1, q1⟩ := HTL7.out.one (Below.refl _ _) (map_get hx)
          obtain ⟨b2, o2, ha2, hbs2, q2⟩ := HTS.out.one (Below.refl _ _) (map_get hs)
          simp only [Option.some.injEq, Addr.mk.injEq, and_true] at ha2
          obtain ⟨rfl, rfl⟩ := ha2
          subst ha1
          rw [Nat.zero_add] at q2
          clear hx hs bx
          have t9 : ((x * (c : Int)) != (x * (c : Int))) = false := by simp
          go_wp2_with fail
          go_roundg (c - (k + 1))
          case measure => have := HJ.out; omega
          case rel => exact ⟨k + 1, by omega, by go_num, rfl⟩
        · obtain rfl : k = c := by omega
          go_wp2
          go_ret
          exact ⟨rfl, below_on HB4.out HB.out⟩

set_option maxRecDepth 100000 in
theorem lifted (os : Os) (started : os.Started) (H : Type) (enc : TypeId × Value → H) :
    ReturnsInHanded {} Try.checked os 9 .any (Rows.aliasPicksSpec.pre6 enc Try.prog Try.f9 Rows.aliasPicksRow.domain false) (Rows.aliasPicksSpec.post enc Try.prog Try.f9 false true false false) := by
  refine returnsInHanded_of_change_sized (C := Try.checked) own started (by kernel_rfl) Try.func9
    (ChangeSpec.witness6 (enc := enc) (C := Try.checked) false ⟨#[], #[.slice none 0 0], []⟩ 8 (by kernel_rfl) (by kernel_rfl) (by kernel_rfl) (by kernel_rfl)) ?_
  intro W base args ds gs before hval0 hW hcnd hsz0 _
  have hval : ∀ (j : Nat) t v, Try.f9.params[j]? = some t → args[j]? = some v → Value.okWide Try.prog W .any base t v := hval0
  have hW' := hW
  obtain ⟨p, q, hA0, hV, rfl, hfz, hnd⟩ := hW
  have hA : DataW.TrodAll enc Try.prog W 0 (fun _ => true) true Try.f9.params.toList args.toList ds p := hA0
  have hsz : (DataW.weightsEach Try.prog (Try.f9.params.toList ++ Rows.aliasPicksSpec.plain.varTypes Try.prog) (ds ++ gs)).all (· ≤ reachBytes) = true := hsz0
  rw [Try.params9] at hA hval hsz
  obtain ⟨v0, vs0, d0, ds0, p0, q0, hargs, rfl, rfl, h0, r0⟩ := trodAll_cons hA
  obtain ⟨rfl, rfl, rfl⟩ := trodAll_nil r0
  obtain rfl : args = #[v0] := by cases args; simp_all
  obtain ⟨rfl, rfl⟩ := trodVars_none hV
  have k0 := h0
  have L0 := light_of hsz (j := 0) (t := 22) (d := d0) rfl rfl
  have lt0 : ∀ x ∈ p0, x.block < W.heap.size := by obtain ⟨m, hm⟩ := k0; exact DataW.trod_lt m _ _ _ hm
  obtain ⟨a0, len0, cap0, rfl⟩ := okWide_slice Try.underlying22 (hval 0 22 v0 rfl rfl)
  obtain ⟨n0, f0⟩ := trod_slice_of Try.underlying22 h0
  have F0 := And.intro f0 L0
  obtain ⟨x0, e0, t0, b0, o0⟩ := el_slice (w := W) (k := 1) iC wfI (by decide) Try.underlying22 (by kernel_rfl) (el_int Try.underlying3) (B := 8) (by kernel_rfl) _ _ _ F0.1 F0.2
  simp only [slC, List.cons.injEq, Value.slice.injEq, and_true] at e0
  obtain ⟨rfl, rfl, rfl⟩ := e0
  clear hA0 hval0
  refine (walk x0 W t0 b0 o0).mono fun e W' ⟨he, hg⟩ => ?_
  subst he
  exact ⟨_, rfl, _, _, _, [], _, [], hW', trodAll_mk1 (shut_bool Try.underlying4 _), (trodAll_cons_mk (Below.trod laidOut (by kernel_rfl) (of_decide_eq_true (by kernel_rfl)) k0 hg lt0) trodAll_mk0), rfl, hg.frame _, fun h => by cases h⟩

theorem over : Rows.aliasPicksRow.holds Try.pinned (OpenSpec.ofChange Rows.aliasPicksSpec) :=
  OpenClaim.holds_of_wide 9 Try.f9 rfl rfl rfl rfl rfl rfl rfl ⟨rfl, rfl, rfl, rfl, rfl⟩ rfl rfl rfl rfl rfl (by kernel_rfl) Try.func9 (by kernel_rfl)
    (of_decide_eq_true (by kernel_rfl)) (by unfold Func.isWrapper; first | (rw [if_pos (by decide +kernel)]; kernel_rfl) | (rw [if_neg (by decide +kernel)]; exact ⟨rfl, rfl⟩))
    (fun os started H enc _ => lifted os started H enc)

/-- ████ THE STATEMENT ████ -/
theorem proved : Rows.AliasPicksSaid :=
  over
#print axioms proved
end Go.Proofs.Ytfndahcihmpmhaa.aliasPicks
