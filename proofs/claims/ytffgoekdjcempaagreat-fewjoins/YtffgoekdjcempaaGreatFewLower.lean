/- The contracts of the program's few.excess and few.lower. -/
import Derived.Test.YtffgoekdjcempaaGreatFewBox
import Derived.Test.YtffgoekdjcempaaGreatFewSum
import Derived.Test.YtffgoekdjcempaaGreatSortOwn
import Derived.Test.YtffgoekdjcempaaGreatInfoInts
import Derived.Test.YtffgoekdjcempaaGreatInfoCounters
namespace Go.Proofs.YtffgoekdjcempaaGreat
open Go.ChangeShapes Go.WideShapes Go.ChangeAt Go.RowKit
open Few

namespace Few
theorem nums_get {C : List (Int × Int)} {k : Nat} {c : Int × Int} (h : C[k]? = some c) : (nums C)[k]? = some c.2 := by
  unfold nums; rw [List.getElem?_map, h]; rfl
theorem nums_len (C : List (Int × Int)) : (nums C).length = C.length := by simp [nums]
theorem take_setF {m l : List Int} {k : Nat} {x : Int} (h : m.take k = l.take k) (hx : l[k]? = some x) (hk : k < m.length) : (m.set k x).take (k + 1) = l.take (k + 1) := by
  rw [List.take_add_one, List.take_add_one, hx, List.getElem?_set_self hk, ← h, List.take_set_of_le (Nat.le_refl _)]
theorem srtC_sortI (l : List Int) : sortI l = srtC l := rfl
end Few

set_option maxRecDepth 100000 in
set_option maxHeartbeats 4000000 in
theorem excess_any (a : Option Addr) (len cap : Nat) (C : List (Int × Int)) (k : Nat) (w : World) (h : Tab w a len cap 2 (C.map iiC)) (hl1 : len ≤ 10000) (hk1 : k ≤ 10000) :
    Calls Tryz.prog 33 #[.slice a len cap, .int .i64 k] w fun e w' => e = .returned (.int .i64 (exC C k)) ∧ Below w.heap.size w w' := by
  have hl := h.hlen
  rw [List.length_map] at hl
  by_cases hk : len ≤ k
  · have e0 : exC C k = 0 := by unfold exC; rw [if_pos (by omega)]
    rw [e0]
    clear h hl e0
    go_enter Tryz.func33, Tryz.ntmps33
    go_wp2
    go_ret
    exact ⟨rfl, Below.refl _ _⟩
  · have e0 : exC C k = (srtC (nums C)).getD (C.length - 1 - k) 0 := by unfold exC; rw [if_neg (by omega)]
    obtain ⟨e1, he1, _⟩ := srt_at (l := nums C) (i := C.length - 1 - k) (by rw [nums_len]; omega)
    rw [List.getD_eq_getElem?_getD, he1, Option.getD_some] at e0
    rw [e0]
    rw [hl] at he1
    have HE := Lib.hid he1
    have HT := Lib.hid h
    have HL := Lib.hid hl
    have HI := Lib.hid (info_parts info_int).choose_spec
    generalize (info_parts info_int).choose = i0 at *
    have hk' : k < len := by omega
    clear h hl e0 he1 hk
    go_enter Tryz.func33, Tryz.ntmps33
    go_wp2_with (at_make; refine wpList_make_full _ rfl _ _ 39 rfl w.heap.size 3 i0 (.int .i64 0) 1 Tryz.underlying39 HI.out.1 HI.out.2.1 HI.out.2.2.1 _ _ _ _ len rfl rfl rfl rfl (by rw [HI.out.2.2.2]; omega) (by unfold maxLen; omega) (Nat.le_refl _) ?_; intro w3 hO3 hg3)
    have hO : Own w3 w.heap.size 3 1 (.slice (some ⟨w.heap.size, 0, none⟩) len len) ((List.replicate len 0).map iC) := Own.full hO3 (made_ints len)
    have hb : Below w.heap.size w w3 := (Below.refl _ _).grown hg3 (Nat.le_refl _) (fun j hj => by cases hj)
    have HO := Lib.hid hO
    have HB3 := Lib.hid hb
    clear hO3 hg3 hO hb
    obtain ⟨X, hX⟩ : ∃ X, w.heap.size = X := ⟨_, rfl⟩
    have HXX := Lib.hid hX
    rw [hX] at HO
    try rw [hX]
    clear hX HI
    go_loopg [17] len (fun q i wr => ∃ (j : Nat) (r : List Int), j + q = len ∧ i = .int .i64 j ∧ Hid (r.length = len) ∧ Hid (r.take j = (nums C).take j) ∧ Hid (Own wr X 3 1 (.slice (some ⟨X, 0, none⟩) len len) (r.map iC)) ∧ Hid (Below w.heap.size w wr))
    case atStart => exact ⟨0, List.replicate len 0, by omega, rfl, Lib.hid (by simp), Lib.hid rfl, HO, HB3⟩
    case round =>
      clear HO HB3
      obtain ⟨j, r, hj0, rfl, HRL, HRT, HO, HB⟩ := hrel
      have HJ := Lib.hid hj0
      have hj : j ≤ len := by omega
      clear hj0
      by_cases hlt : j < len
      · obtain ⟨⟨key, n⟩, hx⟩ : ∃ x, C[j]? = some x := ⟨_, List.getElem?_eq_getElem (by rw [HL.out]; exact hlt)⟩
        obtain ⟨z, hz⟩ : ∃ x, r[j]? = some x := ⟨_, List.getElem?_eq_getElem (by rw [HRL.out]; exact hlt)⟩
        obtain ⟨b1, o1, ha1, hbs1, c0, c1⟩ := HT.out.two HB.out (map_get hx)
        have HN := Lib.hid (nums_get hx)
        have hal : Below wr.heap.size wr (wr.alloc (.cells #[.int .i64 key, .int .i64 n] 37)) := (Below.refl _ _).alloc (Nat.le_refl _) _
        have kc := (MapKept.heap_alloc wr (.cells #[.int .i64 key, .int .i64 n] 37)).1
        have HOa := Lib.hid (HO.out.below hal)
        obtain ⟨w1, hw1⟩ : ∃ v, wr.alloc (.cells #[.int .i64 key, .int .i64 n] 37) = v := ⟨_, rfl⟩
        rw [hw1] at hal kc HOa
        have HV1 := Lib.hid hw1
        have HB1 := Lib.hid (below_on HB.out hal)
        obtain ⟨e0, e1⟩ := pair_cells kc
        obtain ⟨f0, f1, _, _⟩ := HOa.out.at1 (map_get hz)
        have HS : Hid (Own (w1.setCell ⟨X, j, none⟩ (.int .i64 n)) X 3 1 (.slice (some ⟨X, 0, none⟩) len len) ((r.set j n).map iC)) := Lib.hid (by
          have hs := HOa.out.set1 (map_get hz) (.int .i64 n)
          rw [← show iC n = [Value.int .i64 n] from rfl, ← List.map_set] at hs
          exact hs)
        simp only at HN
        subst ha1
        clear hx hz hal kc hw1
        go_upto_region 7 with fail
        rw [HV1.out]
        obtain ⟨Y, hY⟩ : ∃ Y, wr.heap.size = Y := ⟨_, rfl⟩
        rw [hY] at e0 e1 ⊢
        clear HV1 hY c0 c1
        go_wp2_with fail
        go_roundg (len - (j + 1))
        case measure => have := HJ.out; omega
        case rel => exact ⟨j + 1, r.set j n, by omega, by go_num, Lib.hid (by rw [List.length_set]; exact HRL.out), Lib.hid (take_setF HRT.out HN.out (by rw [HRL.out]; exact hlt)), HS, Lib.hid (HB1.out.setCell (p := ⟨X, j, none⟩) (by rw [HXX.out]; exact Nat.le_refl _) _)⟩
      · obtain rfl : j = len := by omega
        have e : r = nums C := by
          have := HRT.out
          rw [List.take_of_length_le (by rw [HRL.out]; exact Nat.le_refl _), List.take_of_length_le (by rw [nums_len, HL.out]; exact Nat.le_refl _)] at this
          exact this
        rw [e] at HO
        have HS := Lib.hid (sort_own HO.out (by rw [nums_len, HL.out]; omega))
        have HB0 := HB
        clear e HRL HRT
        obtain ⟨wo, hwo⟩ : ∃ wo, wo = wr := ⟨_, rfl⟩
        subst hwo
        go_wp2_with fail
        refine HS.out.mono ?_
        rintro e w5 ⟨rfl, hO5, hg5⟩
        obtain ⟨c0, c1, _, _⟩ := hO5.at1 (i := j - 1 - k) (u := .int .i64 e1) (map_get (by rw [srtC_sortI]; exact HE.out))
        have HB5 := Lib.hid (HB0.out.grown hg5 HB0.out.size (fun q hq => by cases hq; rw [HXX.out]; exact Nat.le_refl _))
        have hjk : (((j : Int) - 1 - (k : Int))).toNat = j - 1 - k := by omega
        clear hO5 hg5 HS
        go_wp2
        go_ret
        exact ⟨rfl, HB5.out⟩

set_option maxRecDepth 100000 in
set_option maxHeartbeats 4000000 in
theorem lower_any (a : Option Addr) (len cap : Nat) (C : List (Int × Int)) (z : Int) (w : World) (h : Tab w a len cap 2 (C.map iiC)) (hl1 : len ≤ 10000) (hC : ∀ d ∈ C, 0 ≤ d.2 ∧ d.2 ≤ 9000000000000000000) (hz : 0 ≤ z) :
    Calls Tryz.prog 34 #[.slice a len cap, .int .i64 z] w (RetRows w 37 2 ((lowC z C).map iiC)) := by
  have hl := h.hlen
  rw [List.length_map] at hl
  have HT := Lib.hid h
  have HL := Lib.hid hl
  have HC := Lib.hid hC
  clear h hl hC
  go_enter Tryz.func34, Tryz.ntmps34
  go_wp2_with fail
  go_loopg [5, 10] len (fun g v i wr => ∃ (k : Nat), k + g = len ∧ i = .int .i64 k ∧ Hid (Own wr w.heap.size 37 2 v ((lowC z (C.take k)).map iiC)) ∧ Hid (Below w.heap.size w wr))
  case atStart => exact ⟨0, by omega, rfl, Lib.hid (Own.nil _ _ _ _), Lib.hid (Below.refl _ _)⟩
  case round =>
    obtain ⟨k, hk0, rfl, HO, HB⟩ := hrel
    have HJ := Lib.hid hk0
    have hk : k ≤ len := by omega
    clear hk0
    by_cases hlt : k < len
    · obtain ⟨⟨key, n⟩, hx⟩ : ∃ x, C[k]? = some x := ⟨_, List.getElem?_eq_getElem (by rw [HL.out]; exact hlt)⟩
      obtain ⟨b1, o1, ha1, hbs1, c0, c1⟩ := HT.out.two HB.out (map_get hx)
      have HN := Lib.hid (lowC_snoc (e := z) hx)
      have hnb := HC.out _ (List.mem_of_getElem? hx)
      simp only at HN hnb
      have hn0 := hnb.1
      have hn1 := hnb.2
      have hLl : (lowC z (C.take k)).length ≤ 10000 := by
        rw [lowC_length]
        refine Nat.le_trans List.countP_le_length ?_
        rw [nums_len, List.length_take]; omega
      have HLl := Lib.hid hLl
      have hal : Below wr.heap.size wr (wr.alloc (.cells #[.int .i64 key, .int .i64 n] 37)) := (Below.refl _ _).alloc (Nat.le_refl _) _
      have kc := (MapKept.heap_alloc wr (.cells #[.int .i64 key, .int .i64 n] 37)).1
      have HOa := Lib.hid (HO.out.below hal)
      obtain ⟨w1, hw1⟩ : ∃ v, wr.alloc (.cells #[.int .i64 key, .int .i64 n] 37) = v := ⟨_, rfl⟩
      rw [hw1] at hal kc HOa
      have HV1 := Lib.hid hw1
      have HB1 := Lib.hid (below_on HB.out hal)
      obtain ⟨e0, e1⟩ := pair_cells kc
      subst ha1
      clear hx hal kc hw1 hnb hLl
      go_upto_region 5 with fail
      rw [HV1.out]
      obtain ⟨Y, hY⟩ : ∃ Y, wr.heap.size = Y := ⟨_, rfl⟩
      rw [hY] at e0 e1 ⊢
      clear HV1 hY c0 c1 HO
      by_cases hg : z < n
      · rw [if_pos hg] at HN
        have hd0 : 0 ≤ n - z := by omega
        have HSZ := Lib.hid HB1.out.size
        obtain ⟨m, hm⟩ : ∃ m, n - z = m := ⟨_, rfl⟩
        rw [hm] at HN
        go_wp2_with (at_builtin; (try rw [hm]); refine wpList_append_rows _ rfl _ _ 22 rfl w.heap.size 37 _ 2 16 Tryz.underlying22 info_counter rfl (by decide) _ ((lowC z (C.take k)).map iiC) rfl (HOa.out.alloc _) ⟨w1.heap.size, 0, none⟩ 1 1 [iiC (key, m)] rfl rfl (by simp [iiC]) (one_row _ (iiC (key, m)) 37 _ (by simp)) (by simp [iiC, Value.oneCell']) (by rw [List.length_map]; have := HLl.out; omega) (by decide) (by have := HSZ.out; simp; omega) ?_; intro v' w2 hO2 hg2)
        rw [← List.map_singleton (f := iiC) (a := (key, m)), ← List.map_append, ← HN.out] at hO2
        have hu := (HOa.out.alloc (.cells #[.int .i64 key, .int .i64 m] 37)).under (HB1.out.alloc HSZ.out _) (Nat.le_refl _) (by have := HSZ.out; simp; omega) hg2
        have HO2 := Lib.hid hO2
        have HU := Lib.hid hu
        clear hO2 hu hg2
        go_wp2_with fail
        go_roundg (len - (k + 1))
        case measure => have := HJ.out; omega
        case rel => exact ⟨k + 1, by omega, by go_num, HO2, HU⟩
      · rw [if_neg hg] at HN
        have hg' : n ≤ z := by omega
        clear hg
        go_wp2_with fail
        go_roundg (len - (k + 1))
        case measure => have := HJ.out; omega
        case rel => exact ⟨k + 1, by omega, by go_num, by rw [HN.out]; exact HOa, HB1⟩
    · obtain rfl : k = len := by omega
      rw [List.take_of_length_le (by rw [HL.out]; exact Nat.le_refl _)] at HO
      go_wp2
      go_ret
      exact ⟨_, rfl, HO.out, HB.out⟩
end Go.Proofs.YtffgoekdjcempaaGreat
