/- The contract of the laws' own things (culkeep.things): a set of numbers below n, rising. -/
import Derived.Test.YtoijeafhohcbdaaDigitMath
import Derived.Test.YtoijeafhohcbdaaInfoInts
import Derived.Test.YtoijeafhohcbdaaIntSet
import Derived.Test.YtoijeafhohcbdaaOwnMore
import Derived.Test.YtoijeafhohcbdaaWithin
import Derived.Deep.LoopGhost
namespace Go.Proofs.Ytoijeafhohcbdaa
open Go.ChangeShapes Go.WideShapes Go.ChangeAt Go.RowKit
open Digit

/-- the numbers below n that come -/
def thingsL (l : List Int) (n : Nat) : List Int := (rowOf n).filter (fun i => decide (i ∈ l.map (fun x => withI x n)))
def thingsTo (l : List Int) (n k : Nat) : List Int := (rowOf k).filter (fun i => decide (i ∈ l.map (fun x => withI x n)))
theorem thingsTo_succ (l : List Int) (n k : Nat) : thingsTo l n (k + 1) = if (k : Int) ∈ l.map (fun x => withI x n) then thingsTo l n k ++ [(k : Int)] else thingsTo l n k := by
  unfold thingsTo
  rw [rowOf_succ, List.filter_append]
  by_cases h : (k : Int) ∈ l.map (fun x => withI x n)
  · rw [if_pos h, List.filter_cons, decide_eq_true h]; rfl
  · rw [if_neg h, List.filter_cons, decide_eq_false h]; simp
theorem thingsTo_len (l : List Int) (n k : Nat) : (thingsTo l n k).length ≤ k := by
  have := List.length_filter_le (fun i => decide (i ∈ l.map (fun x => withI x n))) (rowOf k)
  rw [rowOf_len] at this
  exact this
theorem thingsL_mem {l : List Int} {n : Nat} {z : Int} : z ∈ thingsL l n ↔ (0 ≤ z ∧ z < n) ∧ z ∈ l.map (fun x => withI x n) := by
  unfold thingsL
  rw [List.mem_filter, rowOf_mem, decide_eq_true_iff]
theorem thingsL_up (l : List Int) (n : Nat) : Up (thingsL l n) := (rowOf_up n).filter _
theorem thingsL_len (l : List Int) (n : Nat) : (thingsL l n).length ≤ n := thingsTo_len l n n

theorem OwnsInts.under {P : Program} {k e : TypeId} {w w' : World} {b n B : Nat} {ks : List Int} (h : OwnsInts P k e w b n ks) (hb : Below B w w') (hB : b < B) : OwnsInts P k e w' b n ks := by
  obtain ⟨D, ⟨es, clock, h1, h2, h3, h4⟩, h5⟩ := h
  exact ⟨D, ⟨es, clock, (hb.block b hB).trans h1, h2, h3, h4⟩, h5⟩
theorem wfT {z : Int} (h1 : -9223372036854775808 ≤ z) (h2 : z ≤ 9223372036854775807) : (Lit.int .i64 z).wf = true := by
  simp [Lit.wf, IntKind.min, IntKind.max, IntKind.bits, IntKind.signed]; omega
theorem keyedT : Maps.Keyed Try.prog 3 := Maps.int_keyed Try.underlying3
theorem zeroT (w : World) : (zeroValue 4).run Try.prog w = .ok (.bool false) w := by kernel_rfl
theorem keyT (z : Int) (h : -9223372036854775808 ≤ z ∧ z ≤ 9223372036854775807) : keyOf Try.prog 3 (.int .i64 z) = some (.int .i64 z) := Maps.keyOf_int_mk (P := Try.prog) Try.underlying3 (wfT h.1 h.2)

set_option maxRecDepth 100000 in
set_option maxHeartbeats 2000000 in
theorem things_any (a : Option Addr) (len cap : Nat) (l : List Int) (n : Nat) (w : World) (h : Tab w a len cap 1 (l.map iC)) (ho : ∀ z ∈ l, wfI z) (n1 : 1 ≤ n) (n2 : n ≤ 12) :
    Calls Try.prog 26 #[.slice a len cap, .int .i64 n] w fun e w' => ∃ v, e = .returned v ∧ Own w' w.heap.size 3 1 v ((thingsL l n).map iC) ∧ Below w.heap.size w w' := by
  have hl := h.hlen
  rw [List.length_map] at hl
  have hm := h.hmax
  unfold maxLen at hm
  have hle := h.hle
  have HT := Lib.hid h
  have HL := Lib.hid hl
  have HO := Lib.hid ho
  have HI0 := Lib.hid (ownsInts_made Try.prog 3 4 w)
  have HB0 := Lib.hid (show Below w.heap.size w (w.alloc (.map #[] 0)) from (Below.refl _ _).alloc (Nat.le_refl _) _)
  have hs0 : w.heap.size + 1 ≤ (w.alloc (.map #[] 0)).heap.size := by simp
  have HS0 := Lib.hid hs0
  have hmm := @run_makeMap Try.prog
  clear h ho hl hs0
  go_enter Try.func26, Try.ntmps26
  go_wp2_with fail
  obtain ⟨w1, hw1⟩ : ∃ w1, w.alloc (.map #[] 0) = w1 := ⟨_, rfl⟩
  rw [hw1] at HI0 HB0 HS0 ⊢
  obtain ⟨M, hM⟩ : ∃ M, w.heap.size = M := ⟨_, rfl⟩
  rw [hM] at HI0 HS0 ⊢
  have HM := Lib.hid hM
  clear hw1 hM hmm
  go_loopg [13] len (fun g i wr => ∃ (m : Nat) (ks : List Int), m + g = len ∧ i = .int .i64 m ∧ Hid (OwnsInts Try.prog 3 4 wr M m ks) ∧ Hid (∀ z : Int, z ∈ ks ↔ z ∈ (l.take m).map (fun x => withI x n)) ∧ Hid (Below w.heap.size w wr) ∧ Hid (M + 1 ≤ wr.heap.size))
  case atStart => exact ⟨0, _, by omega, rfl, HI0, Lib.hid (fun z => by simp), HB0, HS0⟩
  case round =>
    clear HI0 HB0 HS0
    obtain ⟨m, ks, hm0, rfl, HI, HK, HB, HS⟩ := hrel
    have HJ := Lib.hid hm0
    have hml : m ≤ len := by omega
    clear hm0
    obtain ⟨wl, hwl⟩ : ∃ wl, wl = wr := ⟨_, rfl⟩
    subst hwl
    by_cases hlt : m < len
    · obtain ⟨y, hy⟩ : ∃ y, l[m]? = some y := ⟨_, List.getElem?_eq_getElem (by rw [HL.out]; exact hlt)⟩
      obtain ⟨b1, o1, ha, hbs, cy⟩ := HT.out.one HB.out (map_get hy)
      have hyb := wf_i64 (HO.out y (List.mem_of_getElem? hy))
      have HW := Lib.hid (fun W => within_int y n W hyb (by omega) (by omega))
      have hb := withI_bd y n (by omega)
      have HKY := Lib.hid (keyT (withI y n) (by omega))
      have HY : Hid (∀ z : Int, z ∈ (l.take (m + 1)).map (fun x => withI x n) ↔ z = withI y n ∨ z ∈ (l.take m).map (fun x => withI x n)) := Lib.hid (fun z => by
        rw [List.take_add_one, hy, Option.toList_some, List.map_append, List.mem_append, List.map_singleton, List.mem_singleton]
        exact Or.comm)
      generalize withI y n = u at *
      subst ha
      clear hy hyb
      go_wp2_with fail
      refine (HW.out _).mono ?_
      rintro e w5 ⟨rfl, hw5⟩
      rw [← hw5]
      clear hw5 HW
      go_wp2_with (at_mapUpdate; refine wpList_putInt _ rfl _ _ _ 82 rfl 3 4 keyedT Try.underlying82 Try.underlying4 M m ks rfl HI.out (by unfold maxLen; omega) u rfl rfl HKY.out ?_; intro w6 hI6 hg6)
      go_roundg (len - (m + 1))
      case measure => have := HJ.out; omega
      case rel =>
        refine ⟨m + 1, _, by omega, by go_num, Lib.hid hI6, Lib.hid (fun z => ?_), Lib.hid (HB.out.grown hg6 HB.out.size (fun q hq => by cases hq; rw [HM.out]; exact Nat.le_refl _)), Lib.hid (Nat.le_trans HS.out (by have := hg6.size; exact this))⟩
        rw [List.mem_cons, HK.out z, HY.out z]
    · obtain rfl : m = len := by omega
      rw [List.take_of_length_le (by rw [HL.out]; exact Nat.le_refl _)] at HK
      clear HT HJ hml hlt
      go_wp2_with fail
      go_loopg [8, 23] n (fun g v i wr => ∃ k : Nat, k + g = n ∧ i = .int .i64 k ∧ Hid (Own wr (M + 1) 3 1 v ((thingsTo l n k).map iC)) ∧ Hid (Below (M + 1) wl wr))
      case atStart => exact ⟨0, by omega, rfl, Lib.hid (Own.nil _ _ _ _), Lib.hid (Below.refl _ _)⟩
      case round =>
        obtain ⟨k, hk0, rfl, HV, HBk⟩ := hrel
        have HJ := Lib.hid hk0
        have hk : k ≤ n := by omega
        clear hk0
        obtain ⟨wq, hwq⟩ : ∃ wq, wq = wr := ⟨_, rfl⟩
        subst hwq
        by_cases hlt : k < n
        · have hlook := (HI.out.under HBk.out (Nat.lt_succ_self M)).look keyedT Try.underlying82 Try.underlying4 (zeroT _) (keyT (k : Int) (by omega))
          have hN := thingsTo_succ l n k
          have hsz : M + 1 ≤ wq.heap.size := Nat.le_trans HS.out HBk.out.size
          have hlen := thingsTo_len l n k
          have hlen2 : ((thingsTo l n k).map iC).length ≤ 12 := by rw [List.length_map]; omega
          by_cases hin : (k : Int) ∈ ks
          · rw [decide_eq_true hin] at hlook
            rw [if_pos ((HK.out _).1 hin)] at hN
            have HN := Lib.hid hN
            clear hN hin hlen
            go_wp2_with (at_builtin; refine wpList_append_rows _ rfl _ _ 23 rfl (M + 1) 3 _ 1 8 Try.underlying23 info_int rfl (by decide) _ ((thingsTo l n k).map iC) rfl (HV.out.alloc _) ⟨wq.heap.size, 0, none⟩ 1 1 [iC (k : Int)] rfl rfl (by simp [iC]) (one_row wq (iC (k : Int)) 3 _ rfl) (by simp [iC, Value.oneCell']) (by omega) (by decide) (by simp; omega) ?_; intro v6 w6 hO6 hg6)
            go_roundg (n - (k + 1))
            case measure => have := HJ.out; omega
            case rel =>
              refine ⟨k + 1, by omega, by go_num, Lib.hid ?_, Lib.hid ((HV.out.alloc (.cells #[.int .i64 k] 3)).under (HBk.out.alloc hsz _) (Nat.le_refl _) (by simp; omega) hg6)⟩
              rw [HN.out, List.map_append]
              exact hO6
          · rw [decide_eq_false hin] at hlook
            rw [if_neg (fun hx => hin ((HK.out _).2 hx))] at hN
            have HN := Lib.hid hN
            clear hN hin hlen
            go_wp2_with fail
            go_roundg (n - (k + 1))
            case measure => have := HJ.out; omega
            case rel => exact ⟨k + 1, by omega, by go_num, by rw [HN.out]; exact HV, HBk⟩
        · obtain rfl : k = n := by omega
          have hV := HV.out.base_le (B := w.heap.size) (by rw [HM.out]; exact Nat.le_succ M)
          have hBW := HB.out.trans (HBk.out.mono (by rw [HM.out]; exact Nat.le_succ M))
          have HO2 := Lib.hid hV
          have HB2 := Lib.hid hBW
          clear hV hBW HV
          go_wp2
          go_ret
          exact ⟨_, rfl, HO2.out, HB2.out⟩
end Go.Proofs.Ytoijeafhohcbdaa
