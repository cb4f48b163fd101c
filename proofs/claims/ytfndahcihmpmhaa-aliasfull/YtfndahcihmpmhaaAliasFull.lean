/-
  'Rows.AliasFullSaid' is proved: every column is filled exactly by its own part and that of its alias; full columns have no alias. No condition.
-/
import Derived.Test.YtfndahcihmpmhaaRows
import Derived.Test.YtfndahcihmpmhaaShapes
import Derived.Test.YtfndahcihmpmhaaAliasMake
import Derived.Test.YtfndahcihmpmhaaWalkerShare
import Derived.Test.YtfndahcihmpmhaaKeepSum
import Derived.Test.YtfndahcihmpmhaaEqualInts
import Derived.Test.YtfndahcihmpmhaaLit
import Derived.Deep.DeepCutAuto
import Derived.BigQuiet
import Derived.WalkKit
import Derived.ProofKit
import Derived.OpenShut
import Derived.ShutString
import Derived.ChangeOld
import Derived.Below
namespace Go.Proofs.Ytfndahcihmpmhaa.aliasFull
open Go.ChangeShapes Go.WideShapes Go.ChangeAt Go.RowKit
open Go.ChangeMaps (open_string shut_string)
set_option linter.unusedVariables false

theorem own : ownKnob Try.prog.godebug = none := by kernel_rfl
theorem laidOut : laidOutB Try.prog = true := by kernel_rfl

theorem w22 : weightsE [2, 2] = 0 := by decide
theorem t22 : (Walker.table [2, 2]).own = [4, 4] ∧ (Walker.table [2, 2]).rest = [0, 1] := by decide +kernel
theorem full_keep {l : List Int} (hE : weightsE l = 0) {i : Nat} (hi : i < l.length) (h : Walker.g l i * (l.length : Int) < l.sum) : Walker.g (Walker.table l).own i = Walker.g l i * (l.length : Int) ∧ Walker.g (Walker.table l).rest i ≠ (i : Int) := by
  obtain ⟨h40, hl, hs⟩ := weightsE_zero hE
  obtain ⟨hI, hlo⟩ := Walker.table_inv hl h40
  obtain ⟨k1, k2, k3⟩ := hI.keep i hi h
  have h1 := k3 (by rw [hlo]; simp)
  refine ⟨h1, fun e => ?_⟩
  have := ((Walker.table_cols hE i hi).2.2).2 e
  omega

set_option maxRecDepth 100000 in
set_option maxHeartbeats 2000000 in
theorem walk (x0 : Sl Int) (w : World) (t0 : Tab w x0.a x0.len x0.cap 1 (x0.l.map iC)) (b0 : x0.len * 8 ≤ 140737488351232) (o0 : ∀ z ∈ x0.l, wfI z) :
    Calls Try.prog 11 #[.slice x0.a x0.len x0.cap] w fun e w' => e = .returned (.bool true) ∧ Below w.heap.size w w' := by
  obtain ⟨a, len, cap, L⟩ := x0
  have hm := t0.hmax
  have hle := t0.hle
  unfold maxLen at hm
  have hl : L.length = len := by have h := t0.hlen; rw [List.length_map] at h; exact h
  have HT := Lib.hid t0
  have HL := Lib.hid hl
  clear t0 b0 o0
  have hb0 : Below w.heap.size w (w.alloc (.cells #[.int .i64 2, .int .i64 2] 3)) := (Below.refl _ _).alloc (Nat.le_refl _) _
  have C0 := make_ok (some ⟨w.heap.size, 0, none⟩) 2 2 [2, 2] (w.alloc (.cells #[.int .i64 2, .int .i64 2] 3)) (tab_lit w 3 1 2 ([(2 : Int), 2].map iC) #[.int .i64 2, .int .i64 2] rfl rfl (rows_of iC_len _) (by decide) _ rfl) w22
  rw [show ([2, 2] : List Int).sum = 4 from by decide, t22.1, t22.2] at C0
  have C0 := Lib.hid C0
  go_enter Try.func11, Try.ntmps11
  go_wp2_with fail
  refine C0.out.mono ?_
  rintro e v1 ⟨O1, R1, rfl, hM1, hb1⟩
  have hba : Below v1.heap.size v1 (v1.alloc (.cells #[.int .i64 4, .slice (some ⟨O1, 0, none⟩) 2 2, .slice (some ⟨R1, 0, none⟩) 2 2] 33)) := (Below.refl _ _).alloc (Nat.le_refl _) _
  have hbb : Below v1.heap.size v1 ((v1.alloc (.cells #[.int .i64 4, .slice (some ⟨O1, 0, none⟩) 2 2, .slice (some ⟨R1, 0, none⟩) 2 2] 33)).alloc (.cells #[.int .i64 4, .int .i64 4] 3)) := hba.alloc (by simp) _
  have E1 := Lib.hid (equal_ints (some ⟨O1, 0, none⟩) (some ⟨v1.heap.size + 1, 0, none⟩) 2 2 2 2 [4, 4] [4, 4] _ ((hM1.own _ (List.mem_cons_self ..)).tab_of.below hbb) (tab_lit (v1.alloc (.cells #[.int .i64 4, .slice (some ⟨O1, 0, none⟩) 2 2, .slice (some ⟨R1, 0, none⟩) 2 2] 33)) 3 1 2 ([(4 : Int), 4].map iC) #[.int .i64 4, .int .i64 4] rfl rfl (rows_of iC_len _) (by decide) _ (by simp)) true (by simp))
  have hx1 : ((v1.alloc (.cells #[.int .i64 4, .slice (some ⟨O1, 0, none⟩) 2 2, .slice (some ⟨R1, 0, none⟩) 2 2] 33)).alloc (.cells #[.int .i64 4, .int .i64 4] 3)).heap[v1.heap.size]? = some (.cells #[.int .i64 4, .slice (some ⟨O1, 0, none⟩) 2 2, .slice (some ⟨R1, 0, none⟩) 2 2] 33 (0, 0)) := by
    rw [Below.heap_alloc _ _ _ (by simp)]
    exact (MapKept.heap_alloc v1 _).1
  have HX1 := Lib.hid hx1
  have HR1 := Lib.hid ((hM1.own _ (List.mem_cons_of_mem _ (List.mem_cons_self ..))).tab_of.below hbb)
  have HB1 := Lib.hid (below_on (below_on hb0 hb1) hbb)
  clear C0 hM1 hb1 hb0 hba hbb hx1
  go_wp2_with fail
  refine E1.out.mono ?_
  rintro e v2 ⟨rfl, hb2⟩
  obtain ⟨⟨c0, c1, c2⟩, _, _, _⟩ := alias_cells (kept_blk hb2 HX1.out)
  have hbc : Below v2.heap.size v2 (v2.alloc (.cells #[.int .i64 0, .int .i64 1] 3)) := (Below.refl _ _).alloc (Nat.le_refl _) _
  have E2 := Lib.hid (equal_ints (some ⟨R1, 0, none⟩) (some ⟨v2.heap.size, 0, none⟩) 2 2 2 2 [0, 1] [0, 1] _ ((HR1.out.below hb2).below hbc) (tab_lit v2 3 1 2 ([(0 : Int), 1].map iC) #[.int .i64 0, .int .i64 1] rfl rfl (rows_of iC_len _) (by decide) _ rfl) true (by simp))
  have HB2 := Lib.hid (below_on (below_on HB1.out hb2) hbc)
  clear E1 hb2 HB1 HX1 HR1 hbc
  go_wp2_with fail
  refine E2.out.mono ?_
  rintro e v3 ⟨rfl, hb3⟩
  have HB3 := Lib.hid (below_on HB2.out hb3)
  clear E2 HB2 hb3 c0 c1 c2
  have HT3 := Lib.hid (HT.out.below HB3.out)
  by_cases hE : weightsE L = 0
  · have C2 := Lib.hid (make_ok a len cap L _ HT3.out hE)
    go_wp2_with fail
    refine C2.out.mono ?_
    rintro e v4 ⟨O, R, rfl, hM4, hb4⟩
    have hx4 : (v4.alloc (.cells #[.int .i64 L.sum, .slice (some ⟨O, 0, none⟩) len len, .slice (some ⟨R, 0, none⟩) len len] 33)).heap[v4.heap.size]? = some (.cells #[.int .i64 L.sum, .slice (some ⟨O, 0, none⟩) len len, .slice (some ⟨R, 0, none⟩) len len] 33 (0, 0)) := (MapKept.heap_alloc v4 _).1
    have hba : Below v4.heap.size v4 (v4.alloc (.cells #[.int .i64 L.sum, .slice (some ⟨O, 0, none⟩) len len, .slice (some ⟨R, 0, none⟩) len len] 33)) := (Below.refl _ _).alloc (Nat.le_refl _) _
    have HB4 := Lib.hid (below_on (below_on HB3.out hb4) hba)
    have HTO := Lib.hid (((hM4.own _ (List.mem_cons_self ..)).below hba).tab_of)
    have HTR := Lib.hid (((hM4.own _ (List.mem_cons_of_mem _ (List.mem_cons_self ..))).below hba).tab_of)
    have HTL := Lib.hid (HT3.out.below (below_on hb4 hba))
    have hlens := Walker.table_lens hE
    rw [HL.out] at hlens
    have HLN := Lib.hid hlens
    obtain ⟨h40, hz, hs⟩ := weightsE_zero hE
    rw [HL.out] at h40
    have HZ := Lib.hid hz
    have HCOL : Hid (∀ i, i < len → (0 ≤ Walker.g (Walker.table L).own i ∧ Walker.g (Walker.table L).own i ≤ L.sum) ∧ (0 ≤ Walker.g (Walker.table L).rest i ∧ Walker.g (Walker.table L).rest i < (len : Int)) ∧ (Walker.g (Walker.table L).own i = L.sum ↔ Walker.g (Walker.table L).rest i = (i : Int))) := Lib.hid (fun i hi => by have := Walker.table_cols hE i (by rw [HL.out]; exact hi); rwa [HL.out] at this)
    have HKP : Hid (∀ i, i < len → Walker.g L i * (len : Int) < L.sum → Walker.g (Walker.table L).own i = Walker.g L i * (len : Int) ∧ Walker.g (Walker.table L).rest i ≠ (i : Int)) := Lib.hid (fun i hi h => by have := full_keep hE (i := i) (by rw [HL.out]; exact hi) (by rw [HL.out]; exact h); rwa [HL.out] at this)
    have HS := Lib.hid (fun (W : World) (hW : Tab W a len cap 1 (L.map iC)) => keepSum_any a len cap L W hW h40 hz)
    obtain ⟨⟨c0, c1, c2⟩, _, _, _⟩ := alias_cells hx4
    have HX4 := Lib.hid hx4
    have bA := sum_bd hz
    rw [hl] at bA
    have bA1 := bA.1
    have bA2 : L.sum ≤ 40000000000000 := by omega
    clear hM4 hb4 hba hx4 hlens C2 hE hz hs bA HT3 HB3 hl
    generalize L.sum = A at *
    generalize (Walker.table L).own = TO at *
    generalize (Walker.table L).rest = TR at *
    have t0 : ((len : Int) != (len : Int)) = false := by simp
    have tA : (A != A) = false := by simp
    go_wp2_with fail
    generalize hW4 : v4.alloc (.cells #[.int .i64 A, .slice (some ⟨O, 0, none⟩) len len, .slice (some ⟨R, 0, none⟩) len len] 33) = W4 at *
    clear hW4
    go_quiet (first | (go_at_call 33; exact Calls.quiet_of_same (HS.out _ (HTL.out.below (below_drewN (Below.refl _ _) _)))))
    have hb5 : Below W4.heap.size W4 (W4.drewN nq) := below_drewN (Below.refl _ _) _
    have HTO5 := Lib.hid (HTO.out.below hb5)
    have HTR5 := Lib.hid (HTR.out.below hb5)
    have HTL5 := Lib.hid (HTL.out.below hb5)
    have HX5 := Lib.hid (kept_blk hb5 HX4.out)
    have HB5 := Lib.hid (below_on HB4.out hb5)
    generalize W4.drewN nq = W5 at *
    clear hb5 HTO HTR HTL HX4 HB4 c0 c1 c2 HS
    go_wp2_with fail
    clear t0 tA
    go_loopg [63] len (fun g i wr => ∃ k : Nat, k + g = len ∧ i = .int .i64 k ∧ Hid (Below W5.heap.size W5 wr))
    case atStart => exact ⟨0, by omega, rfl, Lib.hid (Below.refl _ _)⟩
    case round =>
      obtain ⟨k, hk0, rfl, HB⟩ := hrel
      have HJ := Lib.hid hk0
      have hk : k ≤ len := by omega
      clear hk0
      by_cases hlt : k < len
      · obtain ⟨o, ho⟩ : ∃ y, TO[k]? = some y := ⟨_, List.getElem?_eq_getElem (by rw [HLN.out.1]; exact hlt)⟩
        obtain ⟨r, hr⟩ : ∃ y, TR[k]? = some y := ⟨_, List.getElem?_eq_getElem (by rw [HLN.out.2]; exact hlt)⟩
        obtain ⟨x, hx⟩ : ∃ y, L[k]? = some y := ⟨_, List.getElem?_eq_getElem (by rw [HL.out]; exact hlt)⟩
        have hcol := HCOL.out k hlt
        have hkp := HKP.out k hlt
        rw [Walker.g_some ho, Walker.g_some hr] at hcol
        rw [Walker.g_some ho, Walker.g_some hr, Walker.g_some hx] at hkp
        have bx := HZ.out x (List.mem_of_getElem? hx)
        have by1 : 0 ≤ x * (len : Int) := Int.mul_nonneg bx.1 (by omega)
        have by2 : x * (len : Int) ≤ 40000000000000 := by
          have h2 : x * (len : Int) ≤ 1000000000000 * (len : Int) := Int.mul_le_mul_of_nonneg_right bx.2 (by omega)
          omega
        obtain ⟨b1, o1, ha1, p1, qO⟩ := HTO5.out.one HB.out (map_get ho)
        obtain ⟨b2, o2, ha2, p2, qR⟩ := HTR5.out.one HB.out (map_get hr)
        obtain ⟨b3, o3, ha3, p3, qX⟩ := HTL5.out.one HB.out (map_get hx)
        simp only [Option.some.injEq, Addr.mk.injEq, and_true] at ha1 ha2
        obtain ⟨rfl, rfl⟩ := ha1
        obtain ⟨rfl, rfl⟩ := ha2
        subst ha3
        rw [Nat.zero_add] at qO qR
        obtain ⟨⟨c0, c1, c2⟩, _, _, _⟩ := alias_cells (kept_blk HB.out HX5.out)
        have hxl : v4.heap.size < wr.heap.size := (Array.getElem?_eq_some_iff.1 (kept_blk HB.out HX5.out)).1
        obtain ⟨⟨n1, n2⟩, ⟨n3, n4⟩, n5⟩ := hcol
        have m1 : decide (o < 0) = false := decide_eq_false (by omega)
        have m2 : decide (A < o) = false := decide_eq_false (by omega)
        have m3 : decide (r < 0) = false := decide_eq_false (by omega)
        have m4 : decide ((len : Int) ≤ r) = false := decide_eq_false (by omega)
        clear ho hr hx bx
        by_cases hf : o = A
        · have hrk : r = (k : Int) := n5.1 hf
          have hxA : A ≤ x * (len : Int) := Classical.byContradiction fun h => (hkp (by omega)).2 hrk
          have hxd : decide (x * (len : Int) < A) = false := decide_eq_false (by omega)
          have t1 : (o == A) = true := by rw [beq_iff_eq]; exact hf
          have t2 : (r == (k : Int)) = true := by rw [beq_iff_eq]; exact hrk
          clear hf hrk n5 hkp
          go_wp2_with fail
          go_quiet (fail)
          have hbq : Below wr.heap.size wr (wr.drewN nq) := below_drewN (Below.refl _ _) _
          have c0' := (hbq.cell (p := ⟨v4.heap.size, 0, none⟩) hxl).trans c0
          have c1' := (hbq.cell (p := ⟨v4.heap.size, 1, none⟩) hxl).trans c1
          have c2' := (hbq.cell (p := ⟨v4.heap.size, 2, none⟩) hxl).trans c2
          have qO' := (hbq.cell (p := ⟨O, k, none⟩) (Nat.lt_of_lt_of_le p1 HB.out.size)).trans qO
          have qR' := (hbq.cell (p := ⟨R, k, none⟩) (Nat.lt_of_lt_of_le p2 HB.out.size)).trans qR
          have qX' := (hbq.cell (p := ⟨b3, o3 + k, none⟩) (Nat.lt_of_lt_of_le p3 HB.out.size)).trans qX
          have HBq := Lib.hid (HB.out.trans (hbq.mono HB.out.size))
          generalize wr.drewN nq = wq at *
          clear hbq c0 c1 c2 qO qR qX HB
          go_wp2_with fail
          go_quiet (fail)
          go_wp2_with fail
          go_roundg (len - (k + 1))
          case measure => have := HJ.out; omega
          case rel => exact ⟨k + 1, by omega, by go_num, Lib.hid (below_drewN HBq.out _)⟩
        · have hrk : r ≠ (k : Int) := fun h => hf (n5.2 h)
          have t1 : (o == A) = false := by rw [beq_eq_false_iff_ne]; exact hf
          have t2 : (r == (k : Int)) = false := by rw [beq_eq_false_iff_ne]; exact hrk
          by_cases hxA : x * (len : Int) < A
          · have hox := (hkp hxA).1
            have t3 : (o != x * (len : Int)) = false := by rw [bne_eq_false_iff_eq]; exact hox
            clear hf hrk n5 hkp hox
            go_wp2_with fail
            go_quiet (fail)
            have hbq : Below wr.heap.size wr (wr.drewN nq) := below_drewN (Below.refl _ _) _
            have c0' := (hbq.cell (p := ⟨v4.heap.size, 0, none⟩) hxl).trans c0
            have c1' := (hbq.cell (p := ⟨v4.heap.size, 1, none⟩) hxl).trans c1
            have c2' := (hbq.cell (p := ⟨v4.heap.size, 2, none⟩) hxl).trans c2
            have qO' := (hbq.cell (p := ⟨O, k, none⟩) (Nat.lt_of_lt_of_le p1 HB.out.size)).trans qO
            have qR' := (hbq.cell (p := ⟨R, k, none⟩) (Nat.lt_of_lt_of_le p2 HB.out.size)).trans qR
            have qX' := (hbq.cell (p := ⟨b3, o3 + k, none⟩) (Nat.lt_of_lt_of_le p3 HB.out.size)).trans qX
            have HBq := Lib.hid (HB.out.trans (hbq.mono HB.out.size))
            generalize wr.drewN nq = wq at *
            clear hbq c0 c1 c2 qO qR qX HB
            go_wp2_with fail
            go_quiet (fail)
            go_wp2_with fail
            go_roundg (len - (k + 1))
            case measure => have := HJ.out; omega
            case rel => exact ⟨k + 1, by omega, by go_num, Lib.hid (below_drewN HBq.out _)⟩
          · have hxA' : A ≤ x * (len : Int) := by omega
            have hxd : decide (x * (len : Int) < A) = false := decide_eq_false (by omega)
            clear hf hrk n5 hkp hxA
            go_wp2_with fail
            go_quiet (fail)
            have hbq : Below wr.heap.size wr (wr.drewN nq) := below_drewN (Below.refl _ _) _
            have c0' := (hbq.cell (p := ⟨v4.heap.size, 0, none⟩) hxl).trans c0
            have c1' := (hbq.cell (p := ⟨v4.heap.size, 1, none⟩) hxl).trans c1
            have c2' := (hbq.cell (p := ⟨v4.heap.size, 2, none⟩) hxl).trans c2
            have qO' := (hbq.cell (p := ⟨O, k, none⟩) (Nat.lt_of_lt_of_le p1 HB.out.size)).trans qO
            have qR' := (hbq.cell (p := ⟨R, k, none⟩) (Nat.lt_of_lt_of_le p2 HB.out.size)).trans qR
            have qX' := (hbq.cell (p := ⟨b3, o3 + k, none⟩) (Nat.lt_of_lt_of_le p3 HB.out.size)).trans qX
            have HBq := Lib.hid (HB.out.trans (hbq.mono HB.out.size))
            generalize wr.drewN nq = wq at *
            clear hbq c0 c1 c2 qO qR qX HB
            go_wp2_with fail
            go_quiet (fail)
            go_wp2_with fail
            go_roundg (len - (k + 1))
            case measure => have := HJ.out; omega
            case rel => exact ⟨k + 1, by omega, by go_num, Lib.hid (below_drewN HBq.out _)⟩
      · obtain rfl : k = len := by omega
        go_wp2
        go_ret
        exact ⟨rfl, below_on HB5.out HB.out⟩
  · have C2 := Lib.hid (make_bad a len cap L _ HT3.out hE)
    have t1 : (weightsE L != 0) = true := by simpa using hE
    generalize weightsE L = E at *
    clear hE
    go_wp2_with fail
    refine C2.out.mono ?_
    rintro e v4 ⟨rfl, hb4⟩
    have HB4 := Lib.hid (below_on (below_on HB3.out hb4) ((Below.refl v4.heap.size v4).alloc (Nat.le_refl _) (.cells #[.int .i64 0, .slice none 0 0, .slice none 0 0] 33)))
    clear hb4 C2
    go_wp2
    go_ret
    exact ⟨rfl, HB4.out⟩

set_option maxRecDepth 100000 in
theorem lifted (os : Os) (started : os.Started) (H : Type) (enc : TypeId × Value → H) :
    ReturnsInHanded {} Try.checked os 11 .any (Rows.aliasFullSpec.pre6 enc Try.prog Try.f11 Rows.aliasFullRow.domain false) (Rows.aliasFullSpec.post enc Try.prog Try.f11 false true false false) := by
  refine returnsInHanded_of_change_sized (C := Try.checked) own started (by kernel_rfl) Try.func11
    (ChangeSpec.witness6 (enc := enc) (C := Try.checked) false ⟨#[], #[.slice none 0 0], []⟩ 8 (by kernel_rfl) (by kernel_rfl) (by kernel_rfl) (by kernel_rfl)) ?_
  intro W base args ds gs before hval0 hW hcnd hsz0 _
  have hval : ∀ (j : Nat) t v, Try.f11.params[j]? = some t → args[j]? = some v → Value.okWide Try.prog W .any base t v := hval0
  have hW' := hW
  obtain ⟨p, q, hA0, hV, rfl, hfz, hnd⟩ := hW
  have hA : DataW.TrodAll enc Try.prog W 0 (fun _ => true) true Try.f11.params.toList args.toList ds p := hA0
  have hsz : (DataW.weightsEach Try.prog (Try.f11.params.toList ++ Rows.aliasFullSpec.plain.varTypes Try.prog) (ds ++ gs)).all (· ≤ reachBytes) = true := hsz0
  rw [Try.params11] at hA hval hsz
  obtain ⟨v0, vs0, d0, ds0, p0, q0, hargs, rfl, rfl, h0, r0⟩ := trodAll_cons hA
  obtain ⟨rfl, rfl, rfl⟩ := trodAll_nil r0
  obtain rfl : args = #[v0] := by cases args; simp_all
  obtain ⟨rfl, rfl⟩ := trodVars_none hV
  have k0 := h0
  have L0 := light_of hsz (j := 0) (t := 22) (d := d0) rfl rfl
  have lt0 : ∀ x ∈ p0, x.block < W.heap.size := by obtain ⟨m, hm⟩ := k0; exact DataW.trod_lt m _ _ _ hm
  obtain ⟨a0, len0, cap0, rfl⟩ := okWide_slice Try.underlying22 (hval 0 22 v0 rfl rfl)
  obtain ⟨n0, f0⟩ := trod_slice_of Try.underlying22 h0
  have F0 := And.intro f0 L0
  obtain ⟨x0, e0, t0, b0, o0⟩ := el_slice (w := W) (k := 1) iC wfI (by decide) Try.underlying22 (by kernel_rfl) (el_int Try.underlying3) (B := 8) (by kernel_rfl) _ _ _ F0.1 F0.2
  simp only [slC, List.cons.injEq, Value.slice.injEq, and_true] at e0
  obtain ⟨rfl, rfl, rfl⟩ := e0
  clear hA0 hval0
  refine (walk x0 W t0 b0 o0).mono fun e W' ⟨he, hg⟩ => ?_
  subst he
  exact ⟨_, rfl, _, _, _, [], _, [], hW', trodAll_mk1 (shut_bool Try.underlying4 _), (trodAll_cons_mk (Below.trod laidOut (by kernel_rfl) (of_decide_eq_true (by kernel_rfl)) k0 hg lt0) trodAll_mk0), rfl, hg.frame _, fun h => by cases h⟩

theorem over : Rows.aliasFullRow.holds Try.pinned (OpenSpec.ofChange Rows.aliasFullSpec) :=
  OpenClaim.holds_of_wide 11 Try.f11 rfl rfl rfl rfl rfl rfl rfl ⟨rfl, rfl, rfl, rfl, rfl⟩ rfl rfl rfl rfl rfl (by kernel_rfl) Try.func11 (by kernel_rfl)
    (of_decide_eq_true (by kernel_rfl)) (by unfold Func.isWrapper; first | (rw [if_pos (by decide +kernel)]; kernel_rfl) | (rw [if_neg (by decide +kernel)]; exact ⟨rfl, rfl⟩))
    (fun os started H enc _ => lifted os started H enc)

/-- ████ THE STATEMENT ████ -/
theorem proved : Rows.AliasFullSaid :=
  over
#print axioms proved
end Go.Proofs.Ytfndahcihmpmhaa.aliasFull
