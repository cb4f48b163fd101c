/-
  'Rows.AliasTellsSaid' is proved: Check, Pick and Shares of alias tables answer what the document says, for all arguments. No condition.
-/
import Derived.Test.YtfndahcihmpmhaaRows
import Derived.Test.YtfndahcihmpmhaaShapes
import Derived.Test.YtfndahcihmpmhaaAliasShare
import Derived.Test.YtfndahcihmpmhaaRefTable
import Derived.Test.YtfndahcihmpmhaaEqualInts
import Derived.Test.YtfndahcihmpmhaaLit
import Derived.Deep.DeepCutAuto
import Derived.Deep.RegionWith
import Derived.WalkKit
import Derived.ProofKit
import Derived.OpenShut
import Derived.ShutString
import Derived.ChangeOld
import Derived.Below
namespace Go.Proofs.Ytfndahcihmpmhaa.aliasTells
open Go.ChangeShapes Go.WideShapes Go.ChangeAt Go.RowKit
open Go.ChangeMaps (open_string shut_string)
set_option linter.unusedVariables false

theorem own : ownKnob Try.prog.godebug = none := by kernel_rfl
theorem laidOut : laidOutB Try.prog = true := by kernel_rfl

theorem alias_zero : aliasE 0 [] [] = 7 := by decide
theorem mix_get {s t : List Int} {m : Nat} {y : Int} (hl : t.length = s.length) (hs : s[m]? = some y) : (t.take m ++ s.drop m)[m]? = some y := by
  have hm := (List.getElem?_eq_some_iff.1 hs).1
  rw [List.getElem?_append_right (by rw [List.length_take]; omega), List.length_take, show min m t.length = m from by omega, Nat.sub_self, List.getElem?_drop, Nat.add_zero, hs]
theorem mix_set {s t : List Int} {m : Nat} {y z : Int} (hl : t.length = s.length) (hs : s[m]? = some y) (ht : t[m]? = some z) : (t.take m ++ s.drop m).set m z = t.take (m + 1) ++ s.drop (m + 1) := by
  obtain ⟨hm, e1⟩ := List.getElem?_eq_some_iff.1 hs
  rw [List.set_append_right _ _ (by rw [List.length_take]; omega), List.length_take, show min m t.length = m from by omega, Nat.sub_self, List.drop_eq_getElem_cons hm, List.set_cons_zero, List.take_add_one, ht]
  simp
theorem mix_same {s t : List Int} {m : Nat} {y : Int} (hl : t.length = s.length) (hs : s[m]? = some y) (ht : t[m]? = some y) : t.take m ++ s.drop m = t.take (m + 1) ++ s.drop (m + 1) := by
  obtain ⟨hm, e1⟩ := List.getElem?_eq_some_iff.1 hs
  rw [List.drop_eq_getElem_cons hm, List.take_add_one, ht, e1]
  simp
theorem share_next {A : Int} {O R : List Int} {n k j m : Nat} {o y : Int} (ho : O[k]? = some o) (hr : R[k]? = some (j : Int)) (hm : (sharesTo A O R n k)[m]? = some y) :
    (sharesTo A O R n (k + 1))[m]? = some (y + (if k = m then o else 0) + (if j = m then A - o else 0)) := by
  have hml := (List.getElem?_eq_some_iff.1 hm).1
  rw [sharesTo, List.getD_eq_getElem?_getD, List.getD_eq_getElem?_getD, ho, hr]
  show (addAt (addAt (sharesTo A O R n k) k o) j (A - o))[m]? = _
  have h1 : (addAt (sharesTo A O R n k) k o)[m]? = some (y + (if k = m then o else 0)) := by
    by_cases e : k = m
    · subst e
      rw [addAt_get o hm, List.getElem?_set_self hml, if_pos rfl]
    · unfold addAt
      rw [List.getElem?_set_ne e, hm, if_neg e, Int.add_zero]
  have hml2 : m < (addAt (sharesTo A O R n k) k o).length := by rw [addAt_len]; exact hml
  by_cases e : j = m
  · subst e
    rw [addAt_get (A - o) h1, List.getElem?_set_self hml2, if_pos rfl]
  · unfold addAt at h1 ⊢
    rw [List.getElem?_set_ne e, h1, if_neg e, Int.add_zero]

set_option maxRecDepth 100000 in
set_option maxHeartbeats 2000000 in
theorem walk (x0_0 : Int) (x0_1 : Sl Int) (x0_2 : Sl Int) (x1 : Int) (x2 : Int) (w : World) (w0_0 : (Lit.int .i64 x0_0).wf = true) (t0_1 : Tab w x0_1.a x0_1.len x0_1.cap 1 (x0_1.l.map iC)) (b0_1 : x0_1.len * 8 ≤ 140737488351232) (o0_1 : ∀ z ∈ x0_1.l, wfI z) (t0_2 : Tab w x0_2.a x0_2.len x0_2.cap 1 (x0_2.l.map iC)) (b0_2 : x0_2.len * 8 ≤ 140737488351232) (o0_2 : ∀ z ∈ x0_2.l, wfI z) (w1 : (Lit.int .i64 x1).wf = true) (w2 : (Lit.int .i64 x2).wf = true) :
    Calls Try.prog 5 #[.agg #[.int .i64 x0_0, .slice x0_1.a x0_1.len x0_1.cap, .slice x0_2.a x0_2.len x0_2.cap], .int .i64 x1, .int .i64 x2] w fun e w' => e = .returned (.bool true) ∧ Below w.heap.size w w' := by
  obtain ⟨a, la, ca, O⟩ := x0_1
  obtain ⟨b, lb, cb, R⟩ := x0_2
  have hb0 : Below w.heap.size w (w.alloc (.cells #[.int .i64 x0_0, .slice a la ca, .slice b lb cb] 33)) := (Below.refl _ _).alloc (Nat.le_refl _) _
  have HX0 : Hid ((w.alloc (.cells #[.int .i64 x0_0, .slice a la ca, .slice b lb cb] 33)).heap[w.heap.size]? = some (.cells #[.int .i64 x0_0, .slice a la ca, .slice b lb cb] 33 (0, 0))) := Lib.hid (MapKept.heap_alloc w _).1
  have HB0 := Lib.hid hb0
  have H1 := Lib.hid t0_1
  have H2 := Lib.hid t0_2
  have C1 := Lib.hid (pick_any x0_0 a b la ca lb cb O R x1 x2 _ (t0_1.below hb0) (t0_2.below hb0))
  have C2b := Lib.hid (fun (W : World) (hW : Below w.heap.size w W) => shares_bad x0_0 a b la ca lb cb O R W (t0_1.below hW) (t0_2.below hW))
  have C2 := Lib.hid (fun (W : World) (hW : Below w.heap.size w W) => shares_ok x0_0 a b la ca lb cb O R W (t0_1.below hW) (t0_2.below hW))
  have C3 := Lib.hid (fun (W : World) (hW : Below w.heap.size w W) => refTable_any x0_0 a b la ca lb cb O R W (t0_1.below hW) (t0_2.below hW))
  have C4 := Lib.hid (fun (W : World) (hW : Below w.heap.size w W) => aliasCheck_any x0_0 a b la ca lb cb O R W (t0_1.below hW) (t0_2.below hW))
  have C5 := Lib.hid (fun W => aliasCheck_any 0 none none 0 0 0 0 [] [] W (Own.nil W 0 3 1).tab_of (Own.nil W 0 3 1).tab_of)
  rw [alias_zero] at C5
  have d1 := wf_i64 w1
  have d2 := wf_i64 w2
  have l1 : O.length = la := by have h := t0_1.hlen; rw [List.length_map] at h; exact h
  have l2 : R.length = lb := by have h := t0_2.hlen; rw [List.length_map] at h; exact h
  clear t0_1 b0_1 o0_1 t0_2 b0_2 o0_2 w0_0 hb0 w1 w2
  unfold aliasV at C1 C2 C2b C3 C4 C5
  obtain ⟨kk, ee, hpk⟩ : ∃ kk ee, pickP x0_0 O R x1 x2 = (kk, ee) := ⟨_, _, rfl⟩
  rw [hpk] at C1
  have HPK := Lib.hid hpk
  clear hpk
  by_cases hE : aliasE x0_0 O R = 0
  · have C2' := Lib.hid (fun W hW => C2.out W hW hE)
    obtain ⟨z1, z2, z3, z4, z5, z6⟩ := aliasE_zero hE
    obtain ⟨i0, hi, hz0, hz1, hz2⟩ := info_parts info_int
    have HI := Lib.hid (And.intro hi (And.intro hz0 (And.intro hz1 hz2)))
    have hlb : lb = la := by omega
    subst hlb
    have hla : lb ≤ 40 := by omega
    have hO : ∀ (i : Nat) (o : Int), O[i]? = some o → 0 ≤ o ∧ o ≤ x0_0 := fun i o ho => by
      obtain ⟨r, hr⟩ : ∃ r, R[i]? = some r := ⟨_, List.getElem?_eq_getElem (by have := (List.getElem?_eq_some_iff.1 ho).1; omega)⟩
      exact (z6 i o r ho hr).1
    have HBD := Lib.hid (sharesTo_bd (R := R) (n := O.length) z5 hO)
    have HZ := Lib.hid z6
    have L1 := Lib.hid l1
    have L2 := Lib.hid l2
    rw [hE] at C3 C4
    rw [l1] at HBD HZ C2'
    have HPK2 : Hid ((kk, ee) = if (x1 < 0 ∨ (lb : Int) ≤ x1) ∨ x2 < 0 ∨ x0_0 ≤ x2 then ((0 : Int), (1 : Int)) else (if x2 < O.getD x1.toNat 0 then x1 else R.getD x1.toNat 0, 0)) := by
      rw [← HPK.out]
      unfold pickP
      rw [if_neg (fun h => h hE), l1]; rfl
    clear hE z1 z2 z3 z6 hO hi hz0 hz1 hz2 l1 l2 HPK C2 C2b
    go_enter Try.func5, Try.ntmps5
    go_wp2_with fail
    refine C1.out.mono ?_
    rintro e w1 ⟨rfl, hb1⟩
    have HX1 := Lib.hid (kept_blk hb1 HX0.out)
    have HB1 := Lib.hid (below_on HB0.out hb1)
    clear C1 hb1 HX0 HB0
    obtain ⟨⟨c0, c1, c2⟩, _, _, _⟩ := alias_cells HX1.out
    go_wp2_with fail
    refine (C2'.out _ HB1.out).mono ?_
    rintro e w2 ⟨v2, rfl, hO2, hb2⟩
    obtain ⟨q2, cap2, rfl, hT2⟩ := hO2.tab
    have hq2 : ((sharesTo x0_0 O R lb lb).map iC).length = lb := by rw [List.length_map, sharesTo_len]
    rw [hq2] at hT2 ⊢
    clear hO2 hq2
    have HX2 := Lib.hid (kept_blk hb2 HX1.out)
    have HB2 := Lib.hid (below_on HB1.out hb2)
    clear hb2 HX1 HB1 c0 c1 c2 C2'
    obtain ⟨⟨c0, c1, c2⟩, _, _, _⟩ := alias_cells HX2.out
    go_wp2_with fail
    refine (C3.out _ HB2.out).mono ?_
    rintro e w3 ⟨rfl, hb3⟩
    have HX3 := Lib.hid (kept_blk hb3 HX2.out)
    have HB3 := Lib.hid (below_on HB2.out hb3)
    have hT3 := hT2.below hb3
    clear hb3 HX2 HB2 c0 c1 c2 C3
    obtain ⟨⟨c0, c1, c2⟩, _, _, _⟩ := alias_cells HX3.out
    go_wp2_with fail
    refine (C4.out _ HB3.out).mono ?_
    rintro e w4 ⟨rfl, hb4⟩
    have HX4 := Lib.hid (kept_blk hb4 HX3.out)
    have HB4 := Lib.hid (below_on HB3.out hb4)
    have hT4 := hT3.below hb4
    clear hb4 HX3 HB3 c0 c1 c2 C4
    go_wp2_with fail
    refine (C5.out _).mono ?_
    rintro e w5 ⟨rfl, hb5⟩
    have HX5 := Lib.hid (kept_blk hb5 HX4.out)
    have HB5 := Lib.hid (below_on HB4.out hb5)
    have HT5 := Lib.hid (hT4.below hb5)
    clear hT2 hT3 hT4
    clear hb5 HX4 HB4 C5
    obtain ⟨⟨c0, c1, c2⟩, _, _, _⟩ := alias_cells HX5.out
    go_wp2_with (first | (at_make; refine wpList_make_full _ rfl _ _ 22 rfl w5.heap.size 3 i0 (.int .i64 0) 1 Try.underlying22 HI.out.1 HI.out.2.1 HI.out.2.2.1 _ _ _ _ lb rfl rfl rfl rfl (by rw [HI.out.2.2.2]; omega) (by unfold maxLen; omega) (Nat.le_refl _) ?_; intro w6 hO6 hg6; have hb6 := (Below.refl w5.heap.size w5).grown hg6 (Nat.le_refl _) (fun j hj => by cases hj); obtain ⟨⟨y0, y1, y2⟩, _, _, _⟩ := alias_cells (kept_blk hb6 HX5.out)))
    have HS0 : Hid (Own w6 w5.heap.size 3 1 (.slice (some ⟨w5.heap.size, 0, none⟩) lb lb) ((sharesTo x0_0 O R lb 0).map iC)) := Lib.hid (Own.full hO6 (made_ints lb))
    have HB6 := Lib.hid hb6
    have hlt5 : w.heap.size < w5.heap.size := (Array.getElem?_eq_some_iff.1 HX5.out).1
    clear hO6 hg6 hb6 c0 c1 c2 y0 y1 y2 HI
    go_loopg [64] lb (fun g i wr => ∃ k : Nat, k + g = lb ∧ i = .int .i64 k ∧ Hid (Own wr w5.heap.size 3 1 (.slice (some ⟨w5.heap.size, 0, none⟩) lb lb) ((sharesTo x0_0 O R lb k).map iC)) ∧ Hid (Below w5.heap.size w5 wr))
    case atStart => exact ⟨0, by omega, rfl, HS0, HB6⟩
    case round =>
      clear HS0 HB6
      obtain ⟨k, hk0, rfl, HS, HB⟩ := hrel
      have HJ := Lib.hid hk0
      have hk : k ≤ lb := by omega
      clear hk0
      obtain ⟨wo, hwo⟩ : ∃ wo, wo = wr := ⟨_, rfl⟩
      subst hwo
      by_cases hlt : k < lb
      · obtain ⟨o, ho⟩ : ∃ z, O[k]? = some z := ⟨_, List.getElem?_eq_getElem (by rw [L1.out]; exact hlt)⟩
        obtain ⟨r, hr⟩ : ∃ z, R[k]? = some z := ⟨_, List.getElem?_eq_getElem (by rw [L2.out]; exact hlt)⟩
        obtain ⟨⟨o1', o2'⟩, r1, r2⟩ := HZ.out k o r ho hr
        obtain ⟨j, rfl⟩ := Int.eq_ofNat_of_zero_le r1
        have hj : j < lb := by omega
        have HON := Lib.hid (map_get (f := iC) ho)
        have HRN := Lib.hid (map_get (f := iC) hr)
        have HNX := Lib.hid (fun m y => share_next (A := x0_0) (O := O) (R := R) (n := lb) (m := m) (y := y) ho hr)
        have HBK := Lib.hid (HBD.out k hk)
        clear ho hr r1 r2
        have hk40 : (k : Int) * 80000000000000 ≤ 3200000000000000 := by omega
        go_wp2_with fail
        go_loopg [69] lb (fun g i wr => ∃ m : Nat, m + g = lb ∧ i = .int .i64 m ∧ Hid (Own wr w5.heap.size 3 1 (.slice (some ⟨w5.heap.size, 0, none⟩) lb lb) (((sharesTo x0_0 O R lb (k + 1)).take m ++ (sharesTo x0_0 O R lb k).drop m).map iC)) ∧ Hid (Below w5.heap.size w5 wr))
        case atStart => exact ⟨0, by omega, rfl, HS, HB⟩
        case round =>
          clear HS HB
          obtain ⟨m, hm0, rfl, HS, HB⟩ := hrel
          have HM := Lib.hid hm0
          have hm : m ≤ lb := by omega
          clear hm0
          obtain ⟨wi, hwi⟩ : ∃ wi, wi = wr := ⟨_, rfl⟩
          subst hwi
          by_cases hml : m < lb
          · obtain ⟨y, hy⟩ : ∃ z, (sharesTo x0_0 O R lb k)[m]? = some z := ⟨_, List.getElem?_eq_getElem (by rw [sharesTo_len]; exact hml)⟩
            have bY := HBK.out y (List.mem_of_getElem? hy)
            have bY1 := bY.1
            have bY2 := bY.2
            have hnx := HNX.out m y hy
            have hll : (sharesTo x0_0 O R lb (k + 1)).length = (sharesTo x0_0 O R lb k).length := by rw [sharesTo_len, sharesTo_len]
            have hget := mix_get hll hy
            have HSET : Hid ((((sharesTo x0_0 O R lb (k + 1)).take m ++ (sharesTo x0_0 O R lb k).drop m)).set m (y + (if k = m then o else 0) + (if j = m then x0_0 - o else 0)) = (sharesTo x0_0 O R lb (k + 1)).take (m + 1) ++ (sharesTo x0_0 O R lb k).drop (m + 1)) := Lib.hid (mix_set hll hy hnx)
            have HGET := Lib.hid hget
            generalize ((sharesTo x0_0 O R lb (k + 1)).take m ++ (sharesTo x0_0 O R lb k).drop m) = M at *
            have hbW := below_on HB5.out HB.out
            obtain ⟨g1, f1, p1, p1'⟩ := HS.out.at1 (map_get hget)
            obtain ⟨b1, q1, ha1, hbs1, cO⟩ := H1.out.one hbW HON.out
            obtain ⟨b3, q3, ha3, hbs3, cR⟩ := H2.out.one hbW HRN.out
            obtain ⟨⟨c0, c1, c2⟩, _, _, _⟩ := alias_cells (kept_blk HB.out HX5.out)
            subst ha1 ha3
            clear bY hnx hll hy hget hbW
            by_cases e1 : k = m
            · have t1 : ((k : Int) == (m : Int)) = true := by rw [beq_iff_eq]; omega
              rw [if_pos e1] at HSET
              have hS1 := HS.out.set1 (map_get HGET.out) (.int .i64 (y + o))
              rw [← show iC (y + o) = [Value.int .i64 (y + o)] from rfl, ← List.map_set] at hS1
              have hB1 : Below w5.heap.size w5 (wi.setCell ⟨w5.heap.size, m, none⟩ (.int .i64 (y + o))).drew := (HB.out.setCell (p := ⟨w5.heap.size, m, none⟩) (Nat.le_refl _) _).drew
              have HS1 := Lib.hid hS1.drew
              have HB1 := Lib.hid hB1
              have hget1 : (M.set m (y + o))[m]? = some (y + o) := List.getElem?_set_self (List.getElem?_eq_some_iff.1 HGET.out).1
              have HGET1 := Lib.hid hget1
              clear hS1 hB1 hget1 e1
              go_wp2_with fail
              go_region
              generalize hW1 : (wi.setCell ⟨w5.heap.size, m, none⟩ (.int .i64 (y + o))).drew = W1 at *
              clear hW1 g1 f1 cO cR c0 c1 c2
              obtain ⟨g1, f1, p2, p2'⟩ := HS1.out.at1 (map_get HGET1.out)
              have hbW := below_on HB5.out HB1.out
              obtain ⟨b1', q1', ha1, hbs1', cO⟩ := H1.out.one hbW HON.out
              obtain ⟨b3', q3', ha3, hbs3', cR⟩ := H2.out.one hbW HRN.out
              obtain ⟨⟨c0, c1, c2⟩, _, _, _⟩ := alias_cells (kept_blk HB1.out HX5.out)
              simp only [Option.some.injEq, Addr.mk.injEq, and_true] at ha1 ha3
              obtain ⟨rfl, rfl⟩ := ha1
              obtain ⟨rfl, rfl⟩ := ha3
              clear hbW
              by_cases e2 : j = m
              · have t2 : ((j : Int) == (m : Int)) = true := by rw [beq_iff_eq]; omega
                rw [if_pos e2] at HSET
                have hS2 := HS1.out.set1 (map_get HGET1.out) (.int .i64 (y + o + (x0_0 - o)))
                rw [← show iC (y + o + (x0_0 - o)) = [Value.int .i64 (y + o + (x0_0 - o))] from rfl, ← List.map_set, List.set_set, HSET.out] at hS2
                have HS2 := Lib.hid hS2
                have HB2 := Lib.hid (HB1.out.setCell (p := ⟨w5.heap.size, m, none⟩) (Nat.le_refl _) (.int .i64 (y + o + (x0_0 - o))))
                clear e2 hS2
                go_wp2_with fail
                go_region
                go_wp2_with fail
                go_roundg (lb - (m + 1))
                case measure => have := HM.out; omega
                case rel => exact ⟨m + 1, by omega, by go_num, Lib.hid HS2.out.drew, Lib.hid HB2.out.drew⟩
              · have t2 : ((j : Int) == (m : Int)) = false := by rw [beq_eq_false_iff_ne]; omega
                rw [if_neg e2, Int.add_zero] at HSET
                rw [HSET.out] at HS1
                clear e2
                go_wp2_with fail
                go_roundg (lb - (m + 1))
                case measure => have := HM.out; omega
                case rel => exact ⟨m + 1, by omega, by go_num, HS1, HB1⟩
            · have t1 : ((k : Int) == (m : Int)) = false := by rw [beq_eq_false_iff_ne]; omega
              rw [if_neg e1, Int.add_zero] at HSET
              clear e1
              by_cases e2 : j = m
              · have t2 : ((j : Int) == (m : Int)) = true := by rw [beq_iff_eq]; omega
                rw [if_pos e2] at HSET
                have hS2 := HS.out.set1 (map_get HGET.out) (.int .i64 (y + (x0_0 - o)))
                rw [← show iC (y + (x0_0 - o)) = [Value.int .i64 (y + (x0_0 - o))] from rfl, ← List.map_set, HSET.out] at hS2
                have HS2 := Lib.hid hS2
                have HB2 := Lib.hid (HB.out.setCell (p := ⟨w5.heap.size, m, none⟩) (Nat.le_refl _) (.int .i64 (y + (x0_0 - o))))
                clear e2 hS2
                go_wp2_with fail
                go_region
                go_wp2_with fail
                go_roundg (lb - (m + 1))
                case measure => have := HM.out; omega
                case rel => exact ⟨m + 1, by omega, by go_num, Lib.hid HS2.out.drew, Lib.hid HB2.out.drew⟩
              · have t2 : ((j : Int) == (m : Int)) = false := by rw [beq_eq_false_iff_ne]; omega
                rw [if_neg e2, Int.add_zero] at HSET
                have HS2 : Hid (Own wi w5.heap.size 3 1 (.slice (some ⟨w5.heap.size, 0, none⟩) lb lb) (((sharesTo x0_0 O R lb (k + 1)).take (m + 1) ++ (sharesTo x0_0 O R lb k).drop (m + 1)).map iC)) := by
                  rw [← HSET.out]
                  have hq := HGET.out
                  obtain ⟨hq1, hq2⟩ := List.getElem?_eq_some_iff.1 hq
                  rw [show M.set m y = M from by rw [← hq2]; exact List.set_getElem_self hq1]
                  exact HS
                clear e2
                go_wp2_with fail
                go_roundg (lb - (m + 1))
                case measure => have := HM.out; omega
                case rel => exact ⟨m + 1, by omega, by go_num, HS2, HB⟩
          · obtain rfl : m = lb := by omega
            have HS2 : Hid (Own wi w5.heap.size 3 1 (.slice (some ⟨w5.heap.size, 0, none⟩) m m) ((sharesTo x0_0 O R m (k + 1)).map iC)) := by
              have h := HS.out
              rw [List.take_of_length_le (by rw [sharesTo_len]; exact Nat.le_refl _), List.drop_of_length_le (by rw [sharesTo_len]; exact Nat.le_refl _), List.append_nil] at h
              exact Lib.hid h
            go_wp2_with fail
            go_roundg (m - (k + 1))
            case measure => have := HJ.out; omega
            case rel => exact ⟨k + 1, by omega, by go_num, HS2, HB⟩
      · obtain rfl : k = lb := by omega
        clear HJ hk hlt HBD
        have EQ := Lib.hid (equal_ints q2 (some ⟨w5.heap.size, 0, none⟩) k cap2 k k (sharesTo x0_0 O R k k) (sharesTo x0_0 O R k k) wo (HT5.out.below HB.out) HS.out.tab_of true (by simp))
        go_wp2_with fail
        refine EQ.out.mono ?_
        rintro e w7 ⟨rfl, hb7⟩
        have HB7 := Lib.hid (below_on (below_on HB5.out HB.out) hb7)
        have HX7 := Lib.hid (kept_blk hb7 (kept_blk HB.out HX5.out))
        obtain ⟨⟨c0, c1, c2⟩, _, _, _⟩ := alias_cells HX7.out
        clear EQ hb7 HB HX5 HB5 HT5 HS
        by_cases g1 : (x1 < 0 ∨ (k : Int) ≤ x1) ∨ x2 < 0 ∨ x0_0 ≤ x2
        · have hp := HPK2.out
          rw [if_pos g1, Prod.mk.injEq] at hp
          obtain ⟨rfl, rfl⟩ := hp
          clear HPK2
          have g2 : x1 < 0 ∨ (0 ≤ x1 ∧ (k : Int) ≤ x1) ∨ ((0 ≤ x1 ∧ x1 < (k : Int)) ∧ x2 < 0) ∨ ((0 ≤ x1 ∧ x1 < (k : Int)) ∧ 0 ≤ x2 ∧ x0_0 ≤ x2) := by omega
          clear g1
          rcases g2 with g2 | ⟨g2, g3⟩ | ⟨⟨g2, g3⟩, g4⟩ | ⟨⟨g2, g3⟩, g4, g5⟩
          all_goals
            go_wp2
            go_ret
            exact ⟨rfl, HB7.out⟩
        · have hp := HPK2.out
          rw [if_neg g1, Prod.mk.injEq] at hp
          obtain ⟨hkk, rfl⟩ := hp
          obtain ⟨n, rfl⟩ := Int.eq_ofNat_of_zero_le (show 0 ≤ x1 by omega)
          have g2 : n < k := by omega
          have g3 : 0 ≤ x2 := by omega
          have g4 : x2 < x0_0 := by omega
          obtain ⟨o, ho⟩ : ∃ z, O[n]? = some z := ⟨_, List.getElem?_eq_getElem (by rw [L1.out]; exact g2)⟩
          obtain ⟨r, hr⟩ : ∃ z, R[n]? = some z := ⟨_, List.getElem?_eq_getElem (by rw [L2.out]; exact g2)⟩
          rw [Int.toNat_natCast, List.getD_eq_getElem?_getD, List.getD_eq_getElem?_getD, ho, hr] at hkk
          have hkk' : kk = if x2 < o then (n : Int) else r := hkk
          obtain ⟨b1, q1, ha1, hbs1, cO⟩ := H1.out.one HB7.out (map_get ho)
          obtain ⟨b3, q3, ha3, hbs3, cR⟩ := H2.out.one HB7.out (map_get hr)
          subst ha1 ha3
          clear g1 HPK2 hkk ho hr
          by_cases g5 : x2 < o
          · rw [if_pos g5] at hkk'
            subst hkk'
            have t9 : ((n : Int) == (n : Int)) = true := by simp
            go_wp2
            go_ret
            exact ⟨rfl, HB7.out⟩
          · rw [if_neg g5] at hkk'
            subst hkk'
            have g6 : o ≤ x2 := by omega
            clear g5
            have t9 : (kk == kk) = true := by simp
            go_wp2
            go_ret
            exact ⟨rfl, HB7.out⟩
  · have hp := HPK.out
    unfold pickP at hp
    rw [if_pos hE, Prod.mk.injEq] at hp
    obtain ⟨rfl, rfl⟩ := hp
    have C2' := Lib.hid (fun W hW => C2b.out W hW hE)
    clear HPK
    have t1 : (aliasE x0_0 O R != 0) = true := by simpa using hE
    generalize aliasE x0_0 O R = E at *
    clear hE C2b C2
    have t2 : (E != E) = false := by simp
    have t3 : (E == E) = true := by simp
    go_enter Try.func5, Try.ntmps5
    go_wp2_with fail
    refine C1.out.mono ?_
    rintro e w1 ⟨rfl, hb1⟩
    have HX1 := Lib.hid (kept_blk hb1 HX0.out)
    have HB1 := Lib.hid (below_on HB0.out hb1)
    clear C1 hb1 HX0 HB0
    obtain ⟨⟨c0, c1, c2⟩, _, _, _⟩ := alias_cells HX1.out
    go_wp2_with fail
    refine (C2'.out _ HB1.out).mono ?_
    rintro e w2 ⟨rfl, hb2⟩
    have HX2 := Lib.hid (kept_blk hb2 HX1.out)
    have HB2 := Lib.hid (below_on HB1.out hb2)
    clear hb2 HX1 HB1 c0 c1 c2 C2'
    obtain ⟨⟨c0, c1, c2⟩, _, _, _⟩ := alias_cells HX2.out
    go_wp2_with fail
    refine (C3.out _ HB2.out).mono ?_
    rintro e w3 ⟨rfl, hb3⟩
    have HX3 := Lib.hid (kept_blk hb3 HX2.out)
    have HB3 := Lib.hid (below_on HB2.out hb3)
    clear hb3 HX2 HB2 c0 c1 c2 C3
    obtain ⟨⟨c0, c1, c2⟩, _, _, _⟩ := alias_cells HX3.out
    go_wp2_with fail
    refine (C4.out _ HB3.out).mono ?_
    rintro e w4 ⟨rfl, hb4⟩
    have HX4 := Lib.hid (kept_blk hb4 HX3.out)
    have HB4 := Lib.hid (below_on HB3.out hb4)
    clear hb4 HX3 HB3 c0 c1 c2 C4
    go_wp2_with fail
    refine (C5.out _).mono ?_
    rintro e w5 ⟨rfl, hb5⟩
    have HX5 := Lib.hid (kept_blk hb5 HX4.out)
    have HB5 := Lib.hid (below_on HB4.out hb5)
    clear hb5 HX4 HB4 C5
    go_wp2
    go_ret
    exact ⟨rfl, HB5.out⟩

set_option maxRecDepth 100000 in
theorem lifted (os : Os) (started : os.Started) (H : Type) (enc : TypeId × Value → H) :
    ReturnsInHanded {} Try.checked os 5 .any (Rows.aliasTellsSpec.pre6 enc Try.prog Try.f5 Rows.aliasTellsRow.domain false) (Rows.aliasTellsSpec.post enc Try.prog Try.f5 false true false false) := by
  refine returnsInHanded_of_change_sized (C := Try.checked) own started (by kernel_rfl) Try.func5
    (ChangeSpec.witness6 (enc := enc) (C := Try.checked) false ⟨#[], #[.agg #[.int .i64 0, .slice none 0 0, .slice none 0 0], .int .i64 0, .int .i64 0], []⟩ 8 (by kernel_rfl) (by kernel_rfl) (by kernel_rfl) (by kernel_rfl)) ?_
  intro W base args ds gs before hval0 hW hcnd hsz0 _
  have hval : ∀ (j : Nat) t v, Try.f5.params[j]? = some t → args[j]? = some v → Value.okWide Try.prog W .any base t v := hval0
  have hW' := hW
  obtain ⟨p, q, hA0, hV, rfl, hfz, hnd⟩ := hW
  have hA : DataW.TrodAll enc Try.prog W 0 (fun _ => true) true Try.f5.params.toList args.toList ds p := hA0
  have hsz : (DataW.weightsEach Try.prog (Try.f5.params.toList ++ Rows.aliasTellsSpec.plain.varTypes Try.prog) (ds ++ gs)).all (· ≤ reachBytes) = true := hsz0
  rw [Try.params5] at hA hval hsz
  obtain ⟨v0, vs0, d0, ds0, p0, q0, hargs, rfl, rfl, h0, r0⟩ := trodAll_cons hA
  obtain ⟨v1, vs1, d1, ds1, p1, q1, rfl, rfl, rfl, h1, r1⟩ := trodAll_cons r0
  obtain ⟨v2, vs2, d2, ds2, p2, q2, rfl, rfl, rfl, h2, r2⟩ := trodAll_cons r1
  obtain ⟨rfl, rfl, rfl⟩ := trodAll_nil r2
  obtain rfl : args = #[v0, v1, v2] := by cases args; simp_all
  obtain ⟨rfl, rfl⟩ := trodVars_none hV
  have k0 := h0
  have L0 := light_of hsz (j := 0) (t := 33) (d := d0) rfl rfl
  have lt0 : ∀ x ∈ p0, x.block < W.heap.size := by obtain ⟨m, hm⟩ := k0; exact DataW.trod_lt m _ _ _ hm
  obtain ⟨cs0, rfl, hsz0⟩ := okWide_struct Try.underlying33 (hval 0 33 v0 rfl rfl)
  obtain ⟨n0, f0⟩ := trod_agg_of h0
  obtain ⟨c0_0, c0_1, c0_2, _, _, _, _, _, _, hcs0, g0_0, g0_1, g0_2⟩ := struct3 Try.underlying33 (by kernel_rfl) (by kernel_rfl) f0 L0
  obtain ⟨x0_0, e0_0, _, w0_0⟩ := DataW.trod_int Try.underlying3 g0_0.1
  obtain ⟨x0_1, e0_1, t0_1, b0_1, o0_1⟩ := el_slice (w := W) (k := 1) iC wfI (by decide) Try.underlying22 (by kernel_rfl) (el_int Try.underlying3) (B := 8) (by kernel_rfl) _ _ _ g0_1.1 g0_1.2
  obtain ⟨x0_2, e0_2, t0_2, b0_2, o0_2⟩ := el_slice (w := W) (k := 1) iC wfI (by decide) Try.underlying22 (by kernel_rfl) (el_int Try.underlying3) (B := 8) (by kernel_rfl) _ _ _ g0_2.1 g0_2.2
  simp only [slC, List.cons.injEq, and_true] at e0_0 e0_1 e0_2
  subst e0_0 e0_1 e0_2
  obtain rfl : cs0 = #[.int .i64 x0_0, .slice x0_1.a x0_1.len x0_1.cap, .slice x0_2.a x0_2.len x0_2.cap] := Array.toList_inj.1 hcs0
  have k1 := h1
  have L1 := light_of hsz (j := 1) (t := 3) (d := d1) rfl rfl
  have lt1 : ∀ x ∈ p1, x.block < W.heap.size := by obtain ⟨m, hm⟩ := k1; exact DataW.trod_lt m _ _ _ hm
  obtain ⟨x1, rfl, rfl, rfl, w1⟩ := open_int Try.underlying3 (hval 1 3 v1 rfl rfl) h1
  have k2 := h2
  have L2 := light_of hsz (j := 2) (t := 3) (d := d2) rfl rfl
  have lt2 : ∀ x ∈ p2, x.block < W.heap.size := by obtain ⟨m, hm⟩ := k2; exact DataW.trod_lt m _ _ _ hm
  obtain ⟨x2, rfl, rfl, rfl, w2⟩ := open_int Try.underlying3 (hval 2 3 v2 rfl rfl) h2
  clear hA0 hval0
  refine (walk x0_0 x0_1 x0_2 x1 x2 W w0_0 t0_1 b0_1 o0_1 t0_2 b0_2 o0_2 w1 w2).mono fun e W' ⟨he, hg⟩ => ?_
  subst he
  exact ⟨_, rfl, _, _, _, [], _, [], hW', trodAll_mk1 (shut_bool Try.underlying4 _), (trodAll_cons_mk (Below.trod laidOut (by kernel_rfl) (of_decide_eq_true (by kernel_rfl)) k0 hg lt0) (trodAll_cons_mk (Below.trod laidOut (by kernel_rfl) (of_decide_eq_true (by kernel_rfl)) k1 hg lt1) (trodAll_cons_mk (Below.trod laidOut (by kernel_rfl) (of_decide_eq_true (by kernel_rfl)) k2 hg lt2) trodAll_mk0))), rfl, hg.frame _, fun h => by cases h⟩

theorem over : Rows.aliasTellsRow.holds Try.pinned (OpenSpec.ofChange Rows.aliasTellsSpec) :=
  OpenClaim.holds_of_wide 5 Try.f5 rfl rfl rfl rfl rfl rfl rfl ⟨rfl, rfl, rfl, rfl, rfl⟩ rfl rfl rfl rfl rfl (by kernel_rfl) Try.func5 (by kernel_rfl)
    (of_decide_eq_true (by kernel_rfl)) (by unfold Func.isWrapper; first | (rw [if_pos (by decide +kernel)]; kernel_rfl) | (rw [if_neg (by decide +kernel)]; exact ⟨rfl, rfl⟩))
    (fun os started H enc _ => lifted os started H enc)

/-- ████ THE STATEMENT ████ -/
theorem proved : Rows.AliasTellsSaid :=
  over
#print axioms proved
end Go.Proofs.Ytfndahcihmpmhaa.aliasTells
