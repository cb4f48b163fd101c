/-
  'Rows.StateSetSaid' is proved: Mark returns what Set stored, the other pairs do not change, and Set is idempotent. No condition.
-/
import Derived.Test.YtelehdnjioocmaaRows
import Derived.Test.YtelehdnjioocmaaShapes
import Derived.Test.YtelehdnjioocmaaStateSetAny
import Derived.Test.YtelehdnjioocmaaSetTells
import Derived.Test.YtelehdnjioocmaaPairsLit
import Derived.Deep.DeepCutAuto
import Derived.WalkKit
import Derived.ProofKit
import Derived.OpenShut
import Derived.ShutString
import Derived.ChangeOld
import Derived.Below
namespace Go.Proofs.Ytelehdnjioocmaa.stateSet
open Go.ChangeShapes Go.WideShapes Go.ChangeAt Go.RowKit
open Go.ChangeMaps (open_string shut_string)
set_option linter.unusedVariables false

theorem own : ownKnob Try.prog.godebug = none := by kernel_rfl
theorem laidOut : laidOutB Try.prog = true := by kernel_rfl

open StateMath
/-- what stands when the four calls have returned: the argument's own cells, the mark that was told, the three lists -/
structure Held (w wx : World) (m : Mk) (N : Nat) (n : Mk) (v5 v9 v11 : Value) (X O : List Pr) : Prop where
  box : wx.heap[w.heap.size]? = some (.cells (mkC m) 34 (0, 0))
  told : wx.heap[N]? = some (.cells (mkC n) 34 (0, 0))
  up : w.heap.size < N
  x : Own wx (w.heap.size + 1) 38 2 v5 (X.map ssC)
  y : Own wx (w.heap.size + 1) 38 2 v9 (X.map ssC)
  z : Own wx (w.heap.size + 1) 38 2 v11 (O.map ssC)
  bel : Below w.heap.size w wx
theorem Held.set {w wx : World} {m u : Mk} {N : Nat} {n : Mk} {v5 v9 v11 : Value} {X O : List Pr} (h : Held w wx m N n v5 v9 v11 X O) (i : Nat) (v : Value) (hu : (mkC m).setIfInBounds i v = mkC u) :
    Held w (wx.setCell ⟨w.heap.size, i, none⟩ v) u N n v5 v9 v11 X O := by
  have h2 := h.up
  refine ⟨by rw [heap_setCell_same wx _ i _ _ v h.box, hu], by rw [Below.heap_setCell _ _ _ _ (by show N ≠ w.heap.size; omega)]; exact h.told, h2, h.x.setCell (Nat.lt_succ_self _) _, h.y.setCell (Nat.lt_succ_self _) _, h.z.setCell (Nat.lt_succ_self _) _, h.bel.setCell (Nat.le_refl _) v⟩
theorem lit_set : setOf [(⟨#[97]⟩, ⟨#[49]⟩)] ⟨36028797018963968, 0, true, false⟩ = ([(⟨#[116, 104]⟩, ⟨#[56]⟩), (⟨#[97]⟩, ⟨#[49]⟩)], 0) := by decide +kernel

set_option maxRecDepth 100000 in
set_option maxHeartbeats 1000000 in
theorem walk (x0 : Sl (ByteArray × ByteArray)) (x1_0 : Int) (x1_1 : Int) (x1_2 : Bool) (x1_3 : Bool) (w : World) (t0 : Tab w x0.a x0.len x0.cap 2 (x0.l.map ssC)) (b0 : x0.len * 32 ≤ 140737488351232) (o0 : ∀ z ∈ x0.l, wfSS z) (w1_0 : (Lit.int .i64 x1_0).wf = true) (w1_1 : (Lit.int .i64 x1_1).wf = true) :
    Calls Try.prog 4 #[.slice x0.a x0.len x0.cap, .agg #[.int .i64 x1_0, .int .i64 x1_1, .bool x1_2, .bool x1_3]] w fun e w' => e = .returned (.bool true) ∧ Below w.heap.size w w' := by
  obtain ⟨a, len, cap, L⟩ := x0
  have hok : ∀ p ∈ L, p.1.size ≤ maxLen ∧ p.2.size ≤ maxLen := fun p hp => by have := o0 p hp; unfold wfSS at this; unfold maxLen; omega
  have HT := Lib.hid t0
  have HO := Lib.hid hok
  clear t0 o0 hok b0
  have hb0 : Below w.heap.size w (w.alloc (.cells (mkC ⟨x1_0, x1_1, x1_2, x1_3⟩) 34)) := (Below.refl _ _).alloc (Nat.le_refl _) _
  have C1x := set_any (some ⟨w.heap.size + 1, 0, none⟩) 1 1 [(⟨#[97]⟩, ⟨#[49]⟩)] 36028797018963968 0 true false ((w.alloc (.cells (mkC ⟨x1_0, x1_1, x1_2, x1_3⟩) 34)).alloc (.cells #[.string ⟨#[97]⟩, .string ⟨#[49]⟩] 38))
    (tab_lit _ _ 2 1 ([((⟨#[97]⟩ : ByteArray), (⟨#[49]⟩ : ByteArray))].map ssC) #[.string ⟨#[97]⟩, .string ⟨#[49]⟩] rfl rfl (rows_of ssC_len _) (by decide) _ (by simp)) (by intro p hp; simp at hp; subst hp; decide)
  rw [lit_set] at C1x
  have C1 := Lib.hid C1x
  clear C1x
  go_enter Try.func4, Try.ntmps4
  go_wp2_with fail
  refine C1.out.mono ?_
  rintro e w1 ⟨v1, rfl, hO1, hb1⟩
  clear C1
  have B1 : Below (w.alloc (.cells (mkC ⟨x1_0, x1_1, x1_2, x1_3⟩) 34)).heap.size (w.alloc (.cells (mkC ⟨x1_0, x1_1, x1_2, x1_3⟩) 34)) w1 := below_on ((Below.refl _ _).alloc (Nat.le_refl _) _) hb1
  obtain ⟨a1, cap1, rfl, hT1⟩ := hO1.tab
  have E1 := Lib.hid (equal_pairs a1 (some ⟨w1.heap.size, 0, none⟩) 2 cap1 2 2 [(⟨#[116, 104]⟩, ⟨#[56]⟩), (⟨#[97]⟩, ⟨#[49]⟩)] [(⟨#[116, 104]⟩, ⟨#[56]⟩), (⟨#[97]⟩, ⟨#[49]⟩)] (w1.alloc (.cells #[.string ⟨#[116, 104]⟩, .string ⟨#[56]⟩, .string ⟨#[97]⟩, .string ⟨#[49]⟩] 38))
    (hT1.below ((Below.refl _ _).alloc (Nat.le_refl _) _)) (tab_lit _ _ 2 2 ([((⟨#[116, 104]⟩ : ByteArray), (⟨#[56]⟩ : ByteArray)), ((⟨#[97]⟩ : ByteArray), (⟨#[49]⟩ : ByteArray))].map ssC) #[.string ⟨#[116, 104]⟩, .string ⟨#[56]⟩, .string ⟨#[97]⟩, .string ⟨#[49]⟩] rfl rfl (rows_of ssC_len _) (by decide) _ rfl) true (by simp))
  clear hO1 hT1 hb1
  go_wp2_with fail
  refine E1.out.mono ?_
  rintro e w2 ⟨rfl, hb2⟩
  have B2 := below_on (below_on B1 ((Below.refl w1.heap.size w1).alloc (Nat.le_refl _) (.cells #[.string ⟨#[116, 104]⟩, .string ⟨#[56]⟩, .string ⟨#[97]⟩, .string ⟨#[49]⟩] 38))) hb2
  have HX2 := Lib.hid (heap_new _ _ _ B2)
  have HB2 := Lib.hid (below_on hb0 B2)
  clear B1 B2 hb2 E1 hb0
  obtain ⟨c0, c1, c2, c3, f0, f1, f2, f3⟩ := four_of HX2.out
  have C2 := Lib.hid (set_any a len cap L x1_0 x1_1 x1_2 x1_3 w2 (HT.out.below HB2.out) HO.out)
  go_wp2_with fail
  refine C2.out.mono ?_
  rintro e w3 ⟨v3, rfl, hO3, hb3⟩
  have HB3 := Lib.hid (below_on HB2.out hb3)
  have hlt2 : w.heap.size < w2.heap.size := (Array.getElem?_eq_some_iff.1 HX2.out).1
  have HX3 : Hid (w3.heap[w.heap.size]? = some (.cells (mkC ⟨x1_0, x1_1, x1_2, x1_3⟩) 34 (0, 0))) := (hb3.block _ hlt2).trans HX2.out
  clear c0 c1 c2 c3 f0 f1 f2 f3 C2 HX2
  by_cases hz : (setOf L ⟨x1_0, x1_1, x1_2, x1_3⟩).2 = 0
  · obtain ⟨g1, g2, g3, g4⟩ := set_inv hz
    rw [hz]
    rw [g4] at hO3
    have F2 := mark_set L _ g1 g2 g3
    have F3 := Lib.hid (set_again L _ g1 g2 g3)
    have F4 := Lib.hid (set_none L _ g1 g3)
    have F6 := Lib.hid (check_set L _ g1 g3)
    have FS := Lib.hid (size_set (m := ⟨x1_0, x1_1, x1_2, x1_3⟩) HO.out)
    have F40 : Hid (len ≤ 40) := by
      have h1 := ((check_zero_iff L).1 g1).1
      have h2 := HT.out.hlen
      rw [List.length_map] at h2
      exact Lib.hid (by omega)
    clear g1 g2 g4 hz
    obtain ⟨n, hn⟩ : ∃ n, tidy ⟨x1_0, x1_1, x1_2, x1_3⟩ = n := ⟨_, rfl⟩
    rw [hn] at F2
    have HN := Lib.hid hn
    clear hn
    generalize hX : marksOf ⟨x1_0, x1_1, x1_2, x1_3⟩ ++ othersOf L = X at *
    clear hX
    obtain ⟨a3, cap3, rfl, hT3⟩ := hO3.tab
    rw [List.length_map] at hT3 hO3 ⊢
    have C3x := mark_any a3 X.length cap3 X w3 hT3 FS.out
    rw [F2] at C3x
    obtain ⟨nt, nr, nh, nk⟩ := n
    have C3 := Lib.hid C3x
    have HT3 := Lib.hid hT3
    have HO3 := Lib.hid hO3
    clear C3x F2 hT3 hO3
    go_wp2_with fail
    refine C3.out.mono ?_
    rintro e w4 ⟨rfl, hb4⟩
    have hlt3 : w.heap.size < w3.heap.size := (Array.getElem?_eq_some_iff.1 HX3.out).1
    have HB4 := Lib.hid (below_on HB3.out hb4)
    have HX4 : Hid (w4.heap[w.heap.size]? = some (.cells (mkC ⟨x1_0, x1_1, x1_2, x1_3⟩) 34 (0, 0))) := (hb4.block _ hlt3).trans HX3.out
    clear C3
    have hlt4 : w.heap.size < w4.heap.size := (Array.getElem?_eq_some_iff.1 HX4.out).1
    have hbA : Below w4.heap.size w4 (w4.alloc (.cells (mkC ⟨nt, nr, nh, nk⟩) 34)) := (Below.refl _ _).alloc (Nat.le_refl _) _
    have HX5 : Hid ((w4.alloc (.cells (mkC ⟨nt, nr, nh, nk⟩) 34)).heap[w.heap.size]? = some (.cells (mkC ⟨x1_0, x1_1, x1_2, x1_3⟩) 34 (0, 0))) := (hbA.block _ hlt4).trans HX4.out
    have HB5 := Lib.hid (below_on HB4.out hbA)
    have HB35 := Lib.hid (below_on hb4 hbA)
    have HN5 : Hid ((w4.alloc (.cells (mkC ⟨nt, nr, nh, nk⟩) 34)).heap[w4.heap.size]? = some (.cells (mkC ⟨nt, nr, nh, nk⟩) 34 (0, 0))) := (MapKept.heap_alloc _ _).1
    have C4x := set_any a3 X.length cap3 X x1_0 x1_1 x1_2 x1_3 (w4.alloc (.cells (mkC ⟨nt, nr, nh, nk⟩) 34)) (HT3.out.below HB35.out) FS.out
    rw [F3.out] at C4x
    have C4 := Lib.hid C4x
    clear C4x hb4 hbA
    obtain ⟨c0, c1, c2, c3, f0, f1, f2, f3⟩ := four_of HX4.out
    obtain ⟨d0, d1, d2, d3, g0, g1, g2, g4⟩ := four_of HX5.out
    unfold markV mkC
    go_wp2_with fail
    refine C4.out.mono ?_
    rintro e w6 ⟨v9, rfl, hO6, hb6⟩
    clear C4 c0 c1 c2 c3 f0 f1 f2 f3 d0 d1 d2 d3 g0 g1 g2 g4
    have hsA : (w4.alloc (.cells (mkC ⟨nt, nr, nh, nk⟩) 34)).heap.size = w4.heap.size + 1 := by simp
    have HB36 := Lib.hid (below_on HB35.out hb6)
    have C5x := set_any a3 X.length cap3 X 0 0 false false w6 (HT3.out.below HB36.out) FS.out
    have F4' : setOf X ⟨0, 0, false, false⟩ = (othersOf L, 0) := F4.out
    rw [F4'] at C5x
    have C5 := Lib.hid C5x
    clear C5x F4'
    go_wp2_with fail
    refine C5.out.mono ?_
    rintro e w7 ⟨v11, rfl, hO7, hb7⟩
    have HH : Hid (Held w w7 ⟨x1_0, x1_1, x1_2, x1_3⟩ w4.heap.size ⟨nt, nr, nh, nk⟩ (.slice a3 X.length cap3) v9 v11 X (othersOf L)) := by
      have hs6 := hb6.size
      rw [hsA] at hb6 hO6 hs6
      have b57 : Below (w4.heap.size + 1) (w4.alloc (.cells (mkC ⟨nt, nr, nh, nk⟩) 34)) w7 := hb6.trans (hb7.mono hs6)
      refine Lib.hid ⟨?_, ?_, hlt4, ?_, ?_, ?_, below_on (below_on HB5.out (by rw [hsA]; exact hb6)) hb7⟩
      · rw [b57.block _ (by omega)]; exact HX5.out
      · rw [b57.block _ (by omega)]; exact HN5.out
      · exact ((HO3.out.below HB36.out).below hb7).base_le (by first | omega | (simp; omega))
      · exact (hO6.below hb7).base_le (by first | omega | (simp; omega))
      · exact hO7.base_le (by first | omega | (simp; omega))
    clear C5 hb6 hb7 hO6 hO7 HB36 HB35 HB5 HB4 HB3 HB2 HX3 HX4 HX5 HN5 HO3 HT3 hsA
    generalize w4.heap.size = NB at *
    generalize hv5 : Value.slice a3 X.length cap3 = v5 at *
    have HV5 := Lib.hid hv5
    clear hv5 hlt4 hlt3 hlt2
    obtain ⟨c0, c1, c2, c3, f0, f1, f2, f3⟩ := four_of HH.out.box
    go_upto_if 63 with fail
    go_cut [] (fun wx => Hid (Held w wx ⟨if x1_2 then x1_0 else 0, x1_1, x1_2, x1_3⟩ NB ⟨nt, nr, nh, nk⟩ v5 v9 v11 X (othersOf L)))
    case first =>
      cases x1_2
      · go_wp2_with fail
        go_meet
        case rel => exact HH.out.set 0 (.int .i64 0) rfl
      · go_wp2_with fail
        go_meet
        case rel => exact HH
    case rest =>
      clear HH c0 c1 c2 c3 f0 f1 f2 f3
      obtain ⟨c0, c1, c2, c3, f0, f1, f2, f3⟩ := four_of hcut.out.box
      go_upto_if 67 with fail
      go_cut [] (fun wx => Hid (Held w wx ⟨if x1_2 then x1_0 else 0, if x1_3 then x1_1 else 0, x1_2, x1_3⟩ NB ⟨nt, nr, nh, nk⟩ v5 v9 v11 X (othersOf L)))
      case first =>
        cases x1_3
        · go_wp2_with fail
          go_meet
          case rel => exact hcut.out.set 1 (.int .i64 0) rfl
        · go_wp2_with fail
          go_meet
          case rel => exact hcut
      case rest =>
        clear c0 c1 c2 c3 f0 f1 f2 f3
        obtain ⟨nt', hnt⟩ : ∃ t, (if x1_2 = true then x1_0 else 0) = t := ⟨_, rfl⟩
        obtain ⟨nr', hnr⟩ : ∃ t, (if x1_3 = true then x1_1 else 0) = t := ⟨_, rfl⟩
        have hT : (⟨nt', nr', x1_2, x1_3⟩ : Mk) = ⟨nt, nr, nh, nk⟩ := by rw [← HN.out, ← hnt, ← hnr]; rfl
        rw [hnt, hnr] at hcut
        simp only [Mk.mk.injEq] at hT
        obtain ⟨rfl, rfl, rfl, rfl⟩ := hT
        clear hnt hnr HN
        have HH := Lib.hid hcut.out
        have hmx := HT.out.hmax
        have hle := HT.out.hle
        have hl := HT.out.hlen
        rw [List.length_map] at hl
        have HE : Hid (L.length ≤ len) := Nat.le_of_eq hl
        unfold maxLen at hmx
        have HL := Lib.hid HT.out.hlen
        have h40 := F40.out
        clear hl hcut
        go_wp2
        go_loopg [13, 71] len (fun g v i wr => ∃ k : Nat, k + g = len ∧ i = .int .i64 k ∧ Hid (Own wr wc.heap.size 38 2 v ((othersOf (L.take k)).map ssC)) ∧ Below wc.heap.size wc wr)
        case atStart => exact ⟨0, by omega, rfl, Own.nil _ _ _ _, Below.refl _ _⟩
        case round =>
          obtain ⟨k, hk0, rfl, HO2, hb⟩ := hrel
          have HJ := Lib.hid hk0
          have hk : k ≤ len := by omega
          clear hk0
          have hsz := hb.size
          by_cases hlt : k < len
          · obtain ⟨⟨pk, pv⟩, hp⟩ := some_get HL.out hlt
            obtain ⟨b, off, ha, hbs, h0, h1⟩ := HT.out.two (below_on HH.out.bel hb) (map_get hp)
            have HP := Lib.hid (others_take L k _ hp)
            have hO := HO2.out
            have hfew : (othersOf (L.take k)).length ≤ k := Nat.le_trans (others_le _) (by rw [List.length_take]; omega)
            have hlen2 : ((othersOf (L.take k)).map ssC).length ≤ k := by rw [List.length_map]; exact hfew
            subst ha
            clear hp hfew
            cases hpl : plainP (pk, pv)
            · have HNo : Hid (othersOf (L.take (k + 1)) = othersOf (L.take k)) := by show _ = _; rw [HP.out, hpl]; simp
              have hd : (pk.toList == [116, 104]) = true ∨ (pk.toList == [114, 118]) = true := by
                unfold plainP at hpl
                rw [Lib.toList_data]
                cases h1 : (pk.data.toList == [116, 104]) <;> cases h2 : (pk.data.toList == [114, 118]) <;> simp [h1, h2] at hpl ⊢
              clear hpl hO
              rcases hd with t | t
              · have t' : (pk.toList != [116, 104]) = false := by rw [bne, t]; rfl
                go_wp2
                go_roundg (len - (k + 1))
                case measure => have := HJ.out; omega
                case rel => exact ⟨k + 1, by omega, by go_num, by rw [HNo.out]; exact HO2.out.alloc _, hb.alloc hsz _⟩
              · have t' : (pk.toList != [114, 118]) = false := by rw [bne, t]; rfl
                cases t2 : (pk.toList == [116, 104])
                · have t3 : (pk.toList != [116, 104]) = true := by rw [bne, t2]; rfl
                  go_wp2
                  go_roundg (len - (k + 1))
                  case measure => have := HJ.out; omega
                  case rel => exact ⟨k + 1, by omega, by go_num, by rw [HNo.out]; exact HO2.out.alloc _, hb.alloc hsz _⟩
                · have t3 : (pk.toList != [116, 104]) = false := by rw [bne, t2]; rfl
                  go_wp2
                  go_roundg (len - (k + 1))
                  case measure => have := HJ.out; omega
                  case rel => exact ⟨k + 1, by omega, by go_num, by rw [HNo.out]; exact HO2.out.alloc _, hb.alloc hsz _⟩
            · have HNo : Hid ((othersOf (L.take (k + 1))).map ssC = (othersOf (L.take k)).map ssC ++ [[.string pk, .string pv]]) := by show _ = _; rw [HP.out, hpl, List.map_append]; rfl
              have hd : (pk.toList == [116, 104]) = false ∧ (pk.toList == [114, 118]) = false := by
                unfold plainP at hpl
                rw [Lib.toList_data]
                cases h1 : (pk.data.toList == [116, 104]) <;> cases h2 : (pk.data.toList == [114, 118]) <;> simp [h1, h2] at hpl ⊢
              obtain ⟨t1, t2⟩ := hd
              have t3 : (pk.toList != [116, 104]) = true := by rw [bne, t1]; rfl
              have t4 : (pk.toList != [114, 118]) = true := by rw [bne, t2]; rfl
              clear hpl
              generalize (othersOf (L.take k)).map ssC = R at *
              go_wp2_with (first | (at_builtin; refine wpList_append_rows _ rfl _ _ 32 rfl wc.heap.size 38 _ 2 32 Try.underlying32 info_pair rfl (by decide) _ R rfl ((hO.alloc _).alloc _) ⟨wr.heap.size + 1, 0, none⟩ 1 1 [[.string pk, .string pv]] rfl rfl (by simp) (one_row _ _ _ _ (by simp)) (by simp [Value.oneCell']) (by omega) (by decide) (by simp; omega) ?_; intro v' w8 hO8 hg8))
              go_roundg (len - (k + 1))
              case measure => have := HJ.out; omega
              case rel => exact ⟨k + 1, by omega, by go_num, by rw [HNo.out]; exact hO8, ((hO.alloc _).alloc _).under ((hb.alloc hsz _).alloc (by simp; omega) _) (Nat.le_refl _) (by simp; omega) hg8⟩
          · have hO := HO2.out
            rw [List.take_of_length_le (by have := HE.out; omega)] at hO
            have hupN := HH.out.up
            have hltN : NB < wc.heap.size := (Array.getElem?_eq_some_iff.1 HH.out.told).1
            obtain ⟨c0, c1, c2, c3, _, _, _, _⟩ := four_of ((hb.block _ (by omega)).trans HH.out.box)
            obtain ⟨d0, d1, d2, d3, _, _, _, _⟩ := four_of ((hb.block _ hltN).trans HH.out.told)
            obtain ⟨a5, cap5, e5, hT5⟩ := (HH.out.x.below hb).tab
            obtain ⟨a9, cap9, e9, hT9⟩ := (HH.out.y.below hb).tab
            obtain ⟨a11, cap11, e11, hT11⟩ := (HH.out.z.below hb).tab
            obtain ⟨a13, cap13, e13, hT13⟩ := hO.tab
            have q := eql_mark nt' nr' nt' nr' x1_2 x1_3 x1_2 x1_3 wr true (by simp)
            rw [e5, e9, e11, e13]
            rw [List.length_map] at hT5 hT9 hT11 hT13
            clear HO2 hO
            have HQ1 := Lib.hid (equal_pairs a9 a5 _ cap9 _ cap5 X X wr hT9 hT5 true (by simp))
            have HQ2 := Lib.hid (fun w' (h : Below wr.heap.size wr w') => equal_pairs a11 a13 _ cap11 _ cap13 (othersOf L) (othersOf L) w' (hT11.below h) (hT13.below h) true (by simp))
            have HQ3 := Lib.hid (fun w' (h : Below wr.heap.size wr w') => check_any a5 _ cap5 X w' (hT5.below h) FS.out)
            clear hT5 hT9 hT11 hT13
            go_wp2_with fail
            refine HQ1.out.mono ?_
            rintro e w9 ⟨rfl, hb9⟩
            go_wp2_with fail
            refine (HQ2.out _ hb9).mono ?_
            rintro e w10 ⟨rfl, hb10⟩
            have hb90 := below_on hb9 hb10
            clear hb9 hb10
            go_wp2_with fail
            refine (HQ3.out _ hb90).mono ?_
            rw [F6.out]
            rintro e w11 ⟨rfl, hb11⟩
            go_wp2
            go_ret
            exact ⟨rfl, below_on (below_on (below_on HH.out.bel hb) hb90) hb11⟩
  · have g := set_err hz
    rw [g] at hO3
    obtain ⟨a3, cap3, rfl, hT3⟩ := hO3.tab
    have t : ((setOf L ⟨x1_0, x1_1, x1_2, x1_3⟩).2 != 0) = true := by simpa using hz
    generalize (setOf L ⟨x1_0, x1_1, x1_2, x1_3⟩).2 = c at *
    clear hO3 hT3 g
    go_wp2
    go_ret
    exact ⟨rfl, HB3.out⟩

set_option maxRecDepth 100000 in
theorem lifted (os : Os) (started : os.Started) (H : Type) (enc : TypeId × Value → H) :
    ReturnsInHanded {} Try.checked os 4 .any (Rows.stateSetSpec.pre6 enc Try.prog Try.f4 Rows.stateSetRow.domain false) (Rows.stateSetSpec.post enc Try.prog Try.f4 false true false false) := by
  refine returnsInHanded_of_change_sized (C := Try.checked) own started (by kernel_rfl) Try.func4
    (ChangeSpec.witness6 (enc := enc) (C := Try.checked) false ⟨#[], #[.slice none 0 0, .agg #[.int .i64 0, .int .i64 0, .bool false, .bool false]], []⟩ 8 (by kernel_rfl) (by kernel_rfl) (by kernel_rfl) (by kernel_rfl)) ?_
  intro W base args ds gs before hval0 hW hcnd hsz0 _
  have hval : ∀ (j : Nat) t v, Try.f4.params[j]? = some t → args[j]? = some v → Value.okWide Try.prog W .any base t v := hval0
  have hW' := hW
  obtain ⟨p, q, hA0, hV, rfl, hfz, hnd⟩ := hW
  have hA : DataW.TrodAll enc Try.prog W 0 (fun _ => true) true Try.f4.params.toList args.toList ds p := hA0
  have hsz : (DataW.weightsEach Try.prog (Try.f4.params.toList ++ Rows.stateSetSpec.plain.varTypes Try.prog) (ds ++ gs)).all (· ≤ reachBytes) = true := hsz0
  rw [Try.params4] at hA hval hsz
  obtain ⟨v0, vs0, d0, ds0, p0, q0, hargs, rfl, rfl, h0, r0⟩ := trodAll_cons hA
  obtain ⟨v1, vs1, d1, ds1, p1, q1, rfl, rfl, rfl, h1, r1⟩ := trodAll_cons r0
  obtain ⟨rfl, rfl, rfl⟩ := trodAll_nil r1
  obtain rfl : args = #[v0, v1] := by cases args; simp_all
  obtain ⟨rfl, rfl⟩ := trodVars_none hV
  have k0 := h0
  have L0 := light_of hsz (j := 0) (t := 32) (d := d0) rfl rfl
  have lt0 : ∀ x ∈ p0, x.block < W.heap.size := by obtain ⟨m, hm⟩ := k0; exact DataW.trod_lt m _ _ _ hm
  obtain ⟨a0, len0, cap0, rfl⟩ := okWide_slice Try.underlying32 (hval 0 32 v0 rfl rfl)
  obtain ⟨n0, f0⟩ := trod_slice_of Try.underlying32 h0
  have F0 := And.intro f0 L0
  obtain ⟨x0, e0, t0, b0, o0⟩ := el_slice (w := W) (k := 2) ssC wfSS (by decide) Try.underlying32 (by kernel_rfl) (el_ss Try.underlying38 (by kernel_rfl) (by kernel_rfl) Try.underlying9 Try.underlying9) (B := 32) (by kernel_rfl) _ _ _ F0.1 F0.2
  simp only [slC, List.cons.injEq, Value.slice.injEq, and_true] at e0
  obtain ⟨rfl, rfl, rfl⟩ := e0
  have k1 := h1
  have L1 := light_of hsz (j := 1) (t := 34) (d := d1) rfl rfl
  have lt1 : ∀ x ∈ p1, x.block < W.heap.size := by obtain ⟨m, hm⟩ := k1; exact DataW.trod_lt m _ _ _ hm
  obtain ⟨cs1, rfl, hsz1⟩ := okWide_struct Try.underlying34 (hval 1 34 v1 rfl rfl)
  obtain ⟨n1, f1⟩ := trod_agg_of h1
  obtain ⟨c1_0, c1_1, c1_2, c1_3, _, _, _, _, _, _, _, _, hcs1, g1_0, g1_1, g1_2, g1_3⟩ := struct4 Try.underlying34 (by kernel_rfl) (by kernel_rfl) f1 L1
  obtain ⟨x1_0, e1_0, _, w1_0⟩ := DataW.trod_int Try.underlying3 g1_0.1
  obtain ⟨x1_1, e1_1, _, w1_1⟩ := DataW.trod_int Try.underlying3 g1_1.1
  obtain ⟨x1_2, e1_2, _⟩ := DataW.trod_bool Try.underlying4 g1_2.1
  obtain ⟨x1_3, e1_3, _⟩ := DataW.trod_bool Try.underlying4 g1_3.1
  simp only [slC, List.cons.injEq, and_true] at e1_0 e1_1 e1_2 e1_3
  subst e1_0 e1_1 e1_2 e1_3
  obtain rfl : cs1 = #[.int .i64 x1_0, .int .i64 x1_1, .bool x1_2, .bool x1_3] := Array.toList_inj.1 hcs1
  clear hA0 hval0
  refine (walk x0 x1_0 x1_1 x1_2 x1_3 W t0 b0 o0 w1_0 w1_1).mono fun e W' ⟨he, hg⟩ => ?_
  subst he
  exact ⟨_, rfl, _, _, _, [], _, [], hW', trodAll_mk1 (shut_bool Try.underlying4 _), (trodAll_cons_mk (Below.trod laidOut (by kernel_rfl) (of_decide_eq_true (by kernel_rfl)) k0 hg lt0) (trodAll_cons_mk (Below.trod laidOut (by kernel_rfl) (of_decide_eq_true (by kernel_rfl)) k1 hg lt1) trodAll_mk0)), rfl, hg.frame _, fun h => by cases h⟩

theorem over : Rows.stateSetRow.holds Try.pinned (OpenSpec.ofChange Rows.stateSetSpec) :=
  OpenClaim.holds_of_wide 4 Try.f4 rfl rfl rfl rfl rfl rfl rfl ⟨rfl, rfl, rfl, rfl, rfl⟩ rfl rfl rfl rfl rfl (by kernel_rfl) Try.func4 (by kernel_rfl)
    (of_decide_eq_true (by kernel_rfl)) (by unfold Func.isWrapper; first | (rw [if_pos (by decide +kernel)]; kernel_rfl) | (rw [if_neg (by decide +kernel)]; exact ⟨rfl, rfl⟩))
    (fun os started H enc _ => lifted os started H enc)

/-- ████ THE STATEMENT ████ -/
theorem proved : Rows.StateSetSaid :=
  over
#print axioms proved
end Go.Proofs.Ytelehdnjioocmaa.stateSet
