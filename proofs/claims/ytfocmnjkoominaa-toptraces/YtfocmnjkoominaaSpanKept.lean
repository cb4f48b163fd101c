/- The contracts of the program's span.Kept, span.Whole and span.Count. -/
import Derived.Test.YtfocmnjkoominaaSpanCheck
import Derived.Test.YtfocmnjkoominaaGateKeep
import Derived.Test.YtfocmnjkoominaaInfoBools
import Derived.Test.YtfocmnjkoominaaOwnMore
namespace Go.Proofs.Ytfocmnjkoominaa
open Go.ChangeShapes Go.WideShapes Go.ChangeAt Go.RowKit
open Span

theorem flat_bools (l : List Bool) : (l.map bC).flatten = l.map Value.bool := by
  induction l with
  | nil => rfl
  | cons x l ih => rw [List.map_cons, List.flatten_cons, ih]; rfl
theorem made_bools (n : Nat) : ((List.replicate n false).map bC).length = n ∧ ((List.replicate n false).map bC).flatten = (madeCells (Value.bool false).cells (n * 1)).toList ∧ ∀ r ∈ (List.replicate n false).map bC, r.length = 1 := by
  refine ⟨by simp, ?_, ?_⟩
  · rw [flat_bools, Nat.mul_one]
    apply List.ext_getElem?
    intro i
    simp [madeCells, Value.cells, List.getElem?_replicate]
    by_cases h : i < n
    · rw [if_pos h, List.getElem?_eq_getElem (by simpa using h)]
      simp [Nat.mod_one]
    · rw [if_neg h, List.getElem?_eq_none (by simpa using h)]
      rfl
  · intro r hr
    obtain ⟨x, _, rfl⟩ := List.mem_map.1 hr
    rfl
/-- the first k are told, the others not yet -/
def keptTo (l : List (Int × Int)) (r : Int) (k : Nat) : List Bool := (keptL l r).take k ++ List.replicate (l.length - k) false
theorem keptL_len (l : List (Int × Int)) (r : Int) : (keptL l r).length = l.length := by simp [keptL]
theorem keptTo_zero (l : List (Int × Int)) (r : Int) : keptTo l r 0 = List.replicate l.length false := by simp [keptTo]
theorem keptTo_all (l : List (Int × Int)) (r : Int) : keptTo l r l.length = keptL l r := by
  unfold keptTo
  rw [List.take_of_length_le (by rw [keptL_len]; exact Nat.le_refl _)]
  simp
theorem keptTo_get {l : List (Int × Int)} {r : Int} {k : Nat} (h : k < l.length) : (keptTo l r k)[k]? = some false := by
  unfold keptTo
  rw [List.getElem?_append_right (by rw [List.length_take, keptL_len]; omega), List.length_take, keptL_len, List.getElem?_replicate, if_pos (by omega)]
theorem keptTo_succ {l : List (Int × Int)} {r : Int} {k : Nat} {s : Int × Int} (h : l[k]? = some s) : (keptTo l r k).set k (decide (thr s.2 ≤ r)) = keptTo l r (k + 1) := by
  have hk := (List.getElem?_eq_some_iff.1 h).1
  unfold keptTo
  have e : ((keptL l r).take k).length = k := by rw [List.length_take, keptL_len]; omega
  rw [List.set_append_right _ _ (by omega), e, Nat.sub_self, show l.length - k = (l.length - (k + 1)) + 1 from by omega, List.replicate_succ, List.set_cons_zero, List.take_add_one, keptL_get h]
  simp

set_option maxRecDepth 100000 in
set_option maxHeartbeats 1000000 in
theorem kept_bad (a : Option Addr) (len cap : Nat) (l : List (Int × Int)) (r : Int) (w : World) (h : Tab w a len cap 2 (l.map iiC)) (hE : spansE l ≠ 0) :
    Calls Try.prog 31 #[.slice a len cap, .int .i64 r] w fun e w' => e = .returned (.tuple #[.slice none 0 0, .int .i64 (spansE l)]) ∧ Below w.heap.size w w' := by
  have HC := Lib.hid (spanCheck_any a len cap l w h)
  have t : (spansE l != 0) = true := by simpa using hE
  clear h hE
  generalize spansE l = E at *
  go_enter Try.func31, Try.ntmps31
  go_wp2_with fail
  refine HC.out.mono ?_
  rintro e w1 ⟨rfl, hb⟩
  go_wp2
  go_ret2
  exact ⟨rfl, hb⟩
set_option maxRecDepth 100000 in
set_option maxHeartbeats 1000000 in
theorem kept_arg (a : Option Addr) (len cap : Nat) (l : List (Int × Int)) (r : Int) (w : World) (h : Tab w a len cap 2 (l.map iiC)) (hE : spansE l = 0) (hr : r < 0 ∨ 72057594037927936 ≤ r) :
    Calls Try.prog 31 #[.slice a len cap, .int .i64 r] w fun e w' => e = .returned (.tuple #[.slice none 0 0, .int .i64 1]) ∧ Below w.heap.size w w' := by
  have HC := Lib.hid (spanCheck_any a len cap l w h)
  rw [hE] at HC
  have HK := Lib.hid (fun W => keep_bad 0 r (Or.inr hr) W)
  clear h hE hr
  go_enter Try.func31, Try.ntmps31
  go_wp2_with fail
  refine HC.out.mono ?_
  rintro e w1 ⟨rfl, hb⟩
  go_wp2_with fail
  refine (HK.out _).mono ?_
  rintro e w2 ⟨rfl, rfl⟩
  go_wp2
  go_ret2
  exact ⟨rfl, hb⟩
set_option maxRecDepth 100000 in
set_option maxHeartbeats 1000000 in
theorem kept_ok (a : Option Addr) (len cap : Nat) (l : List (Int × Int)) (r : Int) (w : World) (h : Tab w a len cap 2 (l.map iiC)) (hE : spansE l = 0) (r0 : 0 ≤ r) (r1 : r < 72057594037927936) :
    Calls Try.prog 31 #[.slice a len cap, .int .i64 r] w fun e w' => ∃ v, e = .returned (.tuple #[v, .int .i64 0]) ∧ Own w' w.heap.size 4 1 v ((keptL l r).map bC) ∧ Below w.heap.size w w' := by
  have hl := h.hlen
  rw [List.length_map] at hl
  obtain ⟨z1, z2⟩ := spansE_zero hE
  have h40 : len ≤ 40 := by omega
  have HC := Lib.hid (spanCheck_any a len cap l w h)
  rw [hE] at HC
  have HK := Lib.hid (fun W => keep_ok 0 r (by omega) (by omega) r0 r1 W)
  rw [show decide ((0 : Int) ≤ r) = true from decide_eq_true r0] at HK
  have HKK := Lib.hid (fun n W => keep_ok (thr n) r (thr_bd n).1 (thr_bd n).2 r0 r1 W)
  have HLV := Lib.hid (fun n h0 h1 W => level_int n h0 h1 W)
  have HZ := Lib.hid z2
  have HT := Lib.hid h
  have HL := Lib.hid hl
  obtain ⟨i0, hi, hz0, hz1, hz2⟩ := info_parts info_bool
  have HI := Lib.hid (And.intro hi (And.intro hz0 (And.intro hz1 hz2)))
  clear h hE hl z1 z2 hi hz0 hz1 hz2
  go_enter Try.func31, Try.ntmps31
  go_wp2_with fail
  refine HC.out.mono ?_
  rintro e w1 ⟨rfl, hb1⟩
  have HB1 := Lib.hid hb1
  clear HC hb1
  go_wp2_with fail
  refine (HK.out _).mono ?_
  rintro e w2 ⟨rfl, rfl⟩
  go_wp2_with (at_make; refine wpList_make_full _ rfl _ _ 58 rfl w1.heap.size 4 i0 (.bool false) 1 Try.underlying58 HI.out.1 HI.out.2.1 HI.out.2.2.1 _ _ _ _ len rfl rfl rfl rfl (by rw [HI.out.2.2.2]; omega) (by unfold maxLen; omega) (Nat.le_refl _) ?_; intro w3 hO3 hg3)
  have hO4 : Own w3 w1.heap.size 4 1 (.slice (some ⟨w1.heap.size, 0, none⟩) len len) ((keptTo l r 0).map bC) := by
    rw [keptTo_zero, HL.out]
    exact Own.full hO3 (made_bools len)
  have HO4 := Lib.hid hO4
  have HB3 := Lib.hid (below_on HB1.out ((Below.refl _ _).grown hg3 (Nat.le_refl _) (fun j hj => by cases hj)))
  have hG := HB1.out.size
  generalize hGG : w1.heap.size = G at *
  clear hO3 hg3 hO4 HI HK HB1 hGG
  go_loopg [32] len (fun g i wr => ∃ k : Nat, k + g = len ∧ i = .int .i64 k ∧ Hid (Own wr G 4 1 (.slice (some ⟨G, 0, none⟩) len len) ((keptTo l r k).map bC)) ∧ Hid (Below w.heap.size w wr))
  case atStart => exact ⟨0, by omega, rfl, HO4, HB3⟩
  case round =>
    clear HO4 HB3
    obtain ⟨k, hk0, rfl, HO, HW⟩ := hrel
    have HJ := Lib.hid hk0
    have hk : k ≤ len := by omega
    clear hk0
    by_cases hlt : k < len
    · obtain ⟨⟨u, v⟩, hx⟩ : ∃ x, l[k]? = some x := ⟨_, List.getElem?_eq_getElem (by rw [HL.out]; exact hlt)⟩
      obtain ⟨b1, o1, ha, hbs, c0, c2⟩ := HT.out.two HW.out (map_get hx)
      have hz := HZ.out k _ hx
      have HLV' := Lib.hid (HLV.out v hz.2.2.1 hz.2.2.2)
      have HKK' := Lib.hid (HKK.out v)
      have HB2 := Lib.hid (HW.out.alloc HW.out.size (.cells #[.int .i64 u, .int .i64 v] 54))
      have HN := Lib.hid (keptTo_succ (r := r) hx)
      simp only at HN
      have hO2 := HO.out.alloc (.cells #[.int .i64 u, .int .i64 v] 54)
      obtain ⟨d1, d2, _, _⟩ := hO2.at1 (map_get (keptTo_get (l := l) (r := r) (by rw [HL.out]; exact hlt)))
      have hS := hO2.set1 (map_get (keptTo_get (l := l) (r := r) (by rw [HL.out]; exact hlt))) (.bool (decide (thr v ≤ r)))
      rw [← show bC (decide (thr v ≤ r)) = [Value.bool (decide (thr v ≤ r))] from rfl, ← List.map_set, HN.out] at hS
      have HS := Lib.hid hS
      have HB4 := Lib.hid (HB2.out.setCell (p := ⟨G, k, none⟩) hG (.bool (decide (thr v ≤ r))))
      rw [show ((two56 - keptAt v.toNat : Nat) : Int) = thr v from rfl] at HLV'
      subst ha
      clear hx hz HLV HKK HN hO2 hS
      generalize decide (thr v ≤ r) = D at *
      generalize thr v = T at *
      go_wp2_with fail
      refine (HLV'.out _).mono ?_
      rintro e w5 ⟨rfl, rfl⟩
      go_wp2_with fail
      refine (HKK'.out _).mono ?_
      rintro e w6 ⟨rfl, rfl⟩
      go_wp2_with fail
      go_roundg (len - (k + 1))
      case measure => have := HJ.out; omega
      case rel => exact ⟨k + 1, by omega, by go_num, HS, HB4⟩
    · obtain rfl : k = len := by omega
      have hv := HO.out
      rw [← HL.out, keptTo_all, HL.out] at hv
      go_wp2
      go_ret2
      exact ⟨_, rfl, hv.base_le hG, HW.out⟩

set_option maxRecDepth 100000 in
set_option maxHeartbeats 1000000 in
theorem whole_bad (a c : Option Addr) (len cap m cap' : Nat) (l : List (Int × Int)) (w : World) (h : Tab w a len cap 2 (l.map iiC)) (hE : keptE l m ≠ 0) :
    Calls Try.prog 32 #[.slice a len cap, .slice c m cap'] w fun e w' => e = .returned (.tuple #[.bool false, .int .i64 (keptE l m)]) ∧ Below w.heap.size w w' := by
  have HC := Lib.hid (checkKept_any a c len cap m cap' l w h)
  have t : (keptE l m != 0) = true := by simpa using hE
  clear h hE
  generalize keptE l m = E at *
  go_enter Try.func32, Try.ntmps32
  go_wp2_with fail
  refine HC.out.mono ?_
  rintro e w1 ⟨rfl, hb⟩
  go_wp2
  go_ret2
  exact ⟨rfl, hb⟩
set_option maxRecDepth 100000 in
set_option maxHeartbeats 1000000 in
theorem count_bad (a c : Option Addr) (len cap m cap' : Nat) (l : List (Int × Int)) (w : World) (h : Tab w a len cap 2 (l.map iiC)) (hE : keptE l m ≠ 0) :
    Calls Try.prog 33 #[.slice a len cap, .slice c m cap'] w fun e w' => e = .returned (.tuple #[.int .i64 0, .int .i64 (keptE l m)]) ∧ Below w.heap.size w w' := by
  have HC := Lib.hid (checkKept_any a c len cap m cap' l w h)
  have t : (keptE l m != 0) = true := by simpa using hE
  clear h hE
  generalize keptE l m = E at *
  go_enter Try.func33, Try.ntmps33
  go_wp2_with fail
  refine HC.out.mono ?_
  rintro e w1 ⟨rfl, hb⟩
  go_wp2
  go_ret2
  exact ⟨rfl, hb⟩
theorem keptE_zero {l : List (Int × Int)} {m : Nat} (h : keptE l m = 0) : spansE l = 0 ∧ m = l.length := by
  unfold keptE at h
  split at h
  · rename_i h1
    split at h
    · exact ⟨h1, by assumption⟩
    · cases h
  · rename_i h1; exact absurd h h1

theorem whole_next {l : List (Int × Int)} {K : List Bool} {k : Nat} {u v : Int} (hx : l[k]? = some (u, v)) (h : ∀ (i : Nat) (s : Int × Int), i < k → l[i]? = some s → K[i]? = some true → s.1 = -1 ∨ K[s.1.toNat]? = some true)
    (P : K[k]? = some true → u = -1 ∨ K[u.toNat]? = some true) : ∀ (i : Nat) (s : Int × Int), i < k + 1 → l[i]? = some s → K[i]? = some true → s.1 = -1 ∨ K[s.1.toNat]? = some true := by
  intro i s hi hs ht
  by_cases e : i = k
  · subst e
    rw [hx, Option.some.injEq] at hs
    subst hs
    exact P ht
  · exact h i s (by omega) hs ht
set_option maxRecDepth 100000 in
set_option maxHeartbeats 1000000 in
theorem whole_ok (a c : Option Addr) (len cap m cap' : Nat) (l : List (Int × Int)) (K : List Bool) (w : World) (h : Tab w a len cap 2 (l.map iiC)) (hK : Tab w c m cap' 1 (K.map bC)) (hE : keptE l m = 0) (W : Bool) (hW : W = true ↔ WholeP l K) :
    Calls Try.prog 32 #[.slice a len cap, .slice c m cap'] w fun e w' => e = .returned (.tuple #[.bool W, .int .i64 0]) ∧ Below w.heap.size w w' := by
  have hl := h.hlen
  rw [List.length_map] at hl
  have hk := hK.hlen
  rw [List.length_map] at hk
  obtain ⟨z0, z3⟩ := keptE_zero hE
  obtain ⟨z1, z2⟩ := spansE_zero z0
  obtain rfl : m = len := by omega
  have h40 : m ≤ 40 := by omega
  have HC := Lib.hid (checkKept_any a c m cap m cap' l w h)
  rw [hE] at HC
  have HZ := Lib.hid z2
  have HT := Lib.hid h
  have HTK := Lib.hid hK
  have HL := Lib.hid hl
  have HLK := Lib.hid hk
  have HWW := Lib.hid hW
  clear h hE hl z0 z1 z2 z3 hK hk hW
  go_enter Try.func32, Try.ntmps32
  go_wp2_with fail
  refine HC.out.mono ?_
  rintro e w1 ⟨rfl, hb1⟩
  have HB1 := Lib.hid hb1
  clear HC hb1
  go_wp2_with fail
  go_loopg [17] m (fun g i wr => ∃ k : Nat, k + g = m ∧ i = .int .i64 k ∧ Hid (∀ (i : Nat) (s : Int × Int), i < k → l[i]? = some s → K[i]? = some true → s.1 = -1 ∨ K[s.1.toNat]? = some true) ∧ Hid (Below w.heap.size w wr))
  case atStart => exact ⟨0, by omega, rfl, Lib.hid (fun i s hi => by omega), HB1⟩
  case round =>
    clear HB1
    obtain ⟨k, hk0, rfl, HP, HW⟩ := hrel
    have HJ := Lib.hid hk0
    have hk : k ≤ m := by omega
    clear hk0
    by_cases hlt : k < m
    · obtain ⟨⟨u, v⟩, hx⟩ : ∃ x, l[k]? = some x := ⟨_, List.getElem?_eq_getElem (by rw [HL.out]; exact hlt)⟩
      obtain ⟨b, hb⟩ : ∃ x, K[k]? = some x := ⟨_, List.getElem?_eq_getElem (by rw [HLK.out]; exact hlt)⟩
      obtain ⟨b1, o1, ha, hbs, c0, c2⟩ := HT.out.two HW.out (map_get hx)
      have HB2 := Lib.hid (HW.out.alloc HW.out.size (.cells #[.int .i64 u, .int .i64 v] 54))
      obtain ⟨b2, o2, ha2, hbs2, d0⟩ := HTK.out.one HB2.out (map_get hb)
      have hz := HZ.out k _ hx
      simp only at hz
      have hu0 := hz.1
      have hu1 := hz.2.1
      have HX := Lib.hid (And.intro hx hb)
      have HKN := Lib.hid (whole_next hx HP.out)
      subst ha ha2
      clear hx hb hz
      cases b
      · go_wp2_with fail
        go_roundg (m - (k + 1))
        case measure => have := HJ.out; omega
        case rel => exact ⟨k + 1, by omega, by go_num, Lib.hid (HKN.out (fun hh => by have := HX.out.2; rw [hh] at this; cases this)), HB2⟩
      · by_cases hu : u = -1
        · subst hu
          go_wp2_with fail
          go_roundg (m - (k + 1))
          case measure => have := HJ.out; omega
          case rel => exact ⟨k + 1, by omega, by go_num, Lib.hid (HKN.out (fun _ => by simp)), HB2⟩
        · have t1 : (u != -1) = true := by simpa using hu
          have HU := Lib.hid hu
          obtain ⟨n, rfl⟩ := Int.eq_ofNat_of_zero_le (show 0 ≤ u by omega)
          have hn : n < m := by omega
          obtain ⟨p, hp⟩ : ∃ x, K[n]? = some x := ⟨_, List.getElem?_eq_getElem (by rw [HLK.out]; exact hn)⟩
          obtain ⟨b3, o3, ha3, hbs3, d3⟩ := HTK.out.one HB2.out (map_get hp)
          simp only [Option.some.injEq, Addr.mk.injEq, and_true] at ha3
          obtain ⟨rfl, rfl⟩ := ha3
          have HPP := Lib.hid hp
          clear hu hp hu0
          cases p
          · obtain rfl : W = false := by
              cases W
              · rfl
              · exfalso
                rcases (HWW.out.1 rfl) k _ HX.out.1 HX.out.2 with h1 | h1
                · exact HU.out h1
                · simp only [Int.toNat_natCast] at h1
                  rw [HPP.out] at h1
                  cases h1
            go_wp2
            go_ret2
            exact ⟨rfl, HB2.out⟩
          · go_wp2_with fail
            go_roundg (m - (k + 1))
            case measure => have := HJ.out; omega
            case rel => exact ⟨k + 1, by omega, by go_num, Lib.hid (HKN.out (fun _ => Or.inr (by rw [Int.toNat_natCast]; exact HPP.out))), HB2⟩
    · obtain rfl : k = m := by omega
      obtain rfl : W = true := HWW.out.2 (fun i s hs ht => HP.out i s (by have := (List.getElem?_eq_some_iff.1 hs).1; rw [HL.out] at this; exact this) hs ht)
      go_wp2
      go_ret2
      exact ⟨rfl, HW.out⟩

theorem pow20 (n : Nat) (hn : n ≤ 20) : 0 ≤ ((2 ^ n : Nat) : Int) ∧ ((2 ^ n : Nat) : Int) ≤ 1048576 := by
  have : 2 ^ n ≤ 2 ^ 20 := Nat.pow_le_pow_right (by decide) hn
  generalize 2 ^ n = p at *
  omega
set_option maxRecDepth 100000 in
set_option maxHeartbeats 1000000 in
theorem count_ok (a c : Option Addr) (len cap m cap' : Nat) (l : List (Int × Int)) (K : List Bool) (w : World) (h : Tab w a len cap 2 (l.map iiC)) (hK : Tab w c m cap' 1 (K.map bC)) (hE : keptE l m = 0) :
    Calls Try.prog 33 #[.slice a len cap, .slice c m cap'] w fun e w' => e = .returned (.tuple #[.int .i64 (countTo l K m), .int .i64 0]) ∧ Below w.heap.size w w' := by
  have hl := h.hlen
  rw [List.length_map] at hl
  have hk := hK.hlen
  rw [List.length_map] at hk
  obtain ⟨z0, z3⟩ := keptE_zero hE
  obtain ⟨z1, z2⟩ := spansE_zero z0
  obtain rfl : m = len := by omega
  have h40 : m ≤ 40 := by omega
  have HC := Lib.hid (checkKept_any a c m cap m cap' l w h)
  rw [hE] at HC
  have HZ := Lib.hid z2
  have HT := Lib.hid h
  have HTK := Lib.hid hK
  have HL := Lib.hid hl
  have HLK := Lib.hid hk
  clear h hE hl z0 z1 z2 z3 hK hk
  go_enter Try.func33, Try.ntmps33
  go_wp2_with fail
  refine HC.out.mono ?_
  rintro e w1 ⟨rfl, hb1⟩
  have HB1 := Lib.hid hb1
  clear HC hb1
  go_wp2_with fail
  go_loopg [7, 18] m (fun g s i wr => ∃ (k : Nat) (A : Int), k + g = m ∧ i = .int .i64 k ∧ s = .int .i64 A ∧ 0 ≤ A ∧ A ≤ (k : Int) * 1048576 ∧ Hid (A = countTo l K k) ∧ Hid (Below w.heap.size w wr))
  case atStart => exact ⟨0, 0, by omega, rfl, rfl, by omega, by omega, Lib.hid rfl, HB1⟩
  case round =>
    clear HB1
    obtain ⟨k, A, hk0, rfl, rfl, hA0, hA1, HA, HW⟩ := hrel
    have HJ := Lib.hid hk0
    have hk : k ≤ m := by omega
    clear hk0
    by_cases hlt : k < m
    · obtain ⟨⟨u, v⟩, hx⟩ : ∃ x, l[k]? = some x := ⟨_, List.getElem?_eq_getElem (by rw [HL.out]; exact hlt)⟩
      obtain ⟨b, hb⟩ : ∃ x, K[k]? = some x := ⟨_, List.getElem?_eq_getElem (by rw [HLK.out]; exact hlt)⟩
      obtain ⟨b1, o1, ha, hbs, c0, c2⟩ := HT.out.two HW.out (map_get hx)
      have HB2 := Lib.hid (HW.out.alloc HW.out.size (.cells #[.int .i64 u, .int .i64 v] 54))
      obtain ⟨b2, o2, ha2, hbs2, d0⟩ := HTK.out.one HB2.out (map_get hb)
      have hz := HZ.out k _ hx
      simp only at hz
      have hv0 := hz.2.2.1
      have hv1 := hz.2.2.2
      subst ha ha2
      cases b
      · have HN := Lib.hid (countTo_no (l := l) hb)
        clear hx hb hz hv0 hv1
        go_wp2_with fail
        go_roundg (m - (k + 1))
        case measure => have := HJ.out; omega
        case rel => exact ⟨k + 1, A, by omega, by go_num, rfl, hA0, by omega, Lib.hid (by rw [HN.out, HA.out]), HB2⟩
      · have HN := Lib.hid (countTo_yes hx hb)
        simp only at HN
        obtain ⟨n, rfl⟩ := Int.eq_ofNat_of_zero_le hv0
        have hn : n ≤ 20 := by omega
        have hp := pow20 n hn
        rw [Int.toNat_natCast] at HN
        obtain ⟨p, hpp⟩ : ∃ p : Nat, 2 ^ n = p := ⟨_, rfl⟩
        have HPW : Hid ((2 : Int) ^ n = (p : Int)) := Lib.hid (by rw [← hpp, Int.natCast_pow]; rfl)
        rw [hpp] at hp HN
        clear hpp
        clear hx hb hz hv0 hv1
        go_wp2_with fail
        go_roundg (m - (k + 1))
        case measure => have := HJ.out; omega
        case rel => exact ⟨k + 1, A + (p : Int), by omega, by go_num, by rw [HPW.out]; exact congrArg (Value.int IntKind.i64) (by unfold wrap64; omega), by omega, by omega, Lib.hid (by rw [HN.out, HA.out]), HB2⟩
    · obtain rfl : k = m := by omega
      obtain rfl := HA.out
      go_wp2
      go_ret2
      exact ⟨rfl, HW.out⟩
end Go.Proofs.Ytfocmnjkoominaa
