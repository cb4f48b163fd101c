/- The contract of the laws' own counted (culkeep.counted): a sketch to which keys came. -/
import Derived.Test.YtcfejbhoeichnaaTabRows
import Derived.Test.YtcfejbhoeichnaaTabCame
namespace Go.Proofs.Ytcfejbhoeichnaa
open Go.ChangeShapes Go.WideShapes Go.ChangeAt Go.RowKit
open Tbl Came

namespace Tbl
/-- the rows behind all that came -/
def allR (s : Nat) (C : List (Int × Int)) (R : List (List Int)) : List (List Int) := C.foldl (fun R p => putR s p.1 p.2 R) R
theorem allR_snoc {s k : Nat} {C : List (Int × Int)} {R : List (List Int)} {p : Int × Int} (h : C[k]? = some p) : allR s (C.take (k + 1)) R = putR s p.1 p.2 (allR s (C.take k) R) := by
  unfold allR
  rw [List.take_add_one, h, Option.toList_some, List.foldl_append]
  rfl
theorem allR_append (s : Nat) (C D : List (Int × Int)) (R : List (List Int)) : allR s (C ++ D) R = allR s D (allR s C R) := by unfold allR; rw [List.foldl_append]
theorem allR_len (s : Nat) : ∀ (C : List (Int × Int)) (R : List (List Int)), (allR s C R).length = R.length
  | [], R => rfl
  | p :: C, R => (allR_len s C (putR s p.1 p.2 R)).trans (putR_len _ _ _ _)
/-- no counter is above M -/
def Most (M : Int) (R : List (List Int)) : Prop := ∀ r ∈ R, ∀ x ∈ r, x ≤ M
theorem put_most {s : Nat} {x n M : Int} {R : List (List Int)} (hn : 0 ≤ n) (h : Most M R) : Most (M + n) (putR s x n R) := by
  intro q hq z hz
  obtain ⟨i, hi⟩ := List.getElem?_of_mem hq
  have hil := (List.getElem?_eq_some_iff.1 hi).1
  rw [putR_len] at hil
  have hri : R[i]? = some (R[i]'hil) := List.getElem?_eq_getElem hil
  rw [putR_get hri, Option.some.injEq] at hi
  subst hi
  have hm := List.mem_of_getElem? hri
  rcases mem_modify hz with hz | ⟨y, hy, rfl⟩
  · have := h _ hm z hz
    omega
  · have := h _ hm y (List.mem_of_getElem? hy)
    omega
theorem put_fits {s : Nat} {x n M : Int} {R : List (List Int)} (hg : GoodT s R) (hn : 0 ≤ n) (h : Most M R) (hM : M + n ≤ 1000000000000) : tooE (putR s x n R) = 0 :=
  (put_too hn hg).2 (fun i r hr y hy => by
    have := h r (List.mem_of_getElem? hr) y (List.mem_of_getElem? hy)
    omega)
theorem all_good {s : Nat} {M : Int} : ∀ {C : List (Int × Int)} {R : List (List Int)}, GoodT s R → Most M R → (∀ p ∈ C, 0 ≤ p.2) → M + sumN C ≤ 1000000000000 → GoodT s (allR s C R) ∧ Most (M + sumN C) (allR s C R)
  | [], R, hg, hm, _, _ => ⟨hg, by show Most (M + 0) R; rw [Int.add_zero]; exact hm⟩
  | p :: C, R, hg, hm, hp, hM => by
    have e : sumN (p :: C) = p.2 + sumN C := by simp [sumN]
    have hp0 := hp p (by simp)
    have hC : 0 ≤ sumN C := by
      have : ∀ D : List (Int × Int), (∀ p ∈ D, 0 ≤ p.2) → 0 ≤ sumN D := by
        intro D
        induction D with
        | nil => intro _; simp [sumN]
        | cons q D ih =>
          intro hD
          have e2 : sumN (q :: D) = q.2 + sumN D := by simp [sumN]
          have h1 := hD q (by simp)
          have h2 := ih (fun r hr => hD r (by simp [hr]))
          omega
      exact this C (fun q hq => hp q (by simp [hq]))
    rw [e] at hM ⊢
    have h1 := put_fits (x := p.1) hg hp0 hm (by omega)
    have h2 := put_good hg h1
    have h3 := put_most (s := s) (x := p.1) hp0 hm
    have h4 := all_good (C := C) h2 h3 (fun q hq => hp q (by simp [hq])) (by omega)
    refine ⟨h4.1, ?_⟩
    rw [show M + (p.2 + sumN C) = M + p.2 + sumN C from by omega]
    exact h4.2
theorem sum_take {C : List (Int × Int)} (h : ∀ p ∈ C, 0 ≤ p.2) (k : Nat) : sumN (C.take k) ≤ sumN C := by
  have e : sumN C = sumN (C.take k) + sumN (C.drop k) := by rw [← sumN_append, List.take_append_drop]
  have : ∀ D : List (Int × Int), (∀ p ∈ D, 0 ≤ p.2) → 0 ≤ sumN D := by
    intro D
    induction D with
    | nil => intro _; simp [sumN]
    | cons q D ih =>
      intro hD
      have e2 : sumN (q :: D) = q.2 + sumN D := by simp [sumN]
      have h1 := hD q (by simp)
      have h2 := ih (fun r hr => hD r (by simp [hr]))
      omega
  have := this (C.drop k) (fun p hp => h p (List.mem_of_mem_drop hp))
  omega
end Tbl

theorem tput_fine (s : Nat) (x n : Int) (a : Option Addr) (len cap : Nat) (R : List (List Int)) (P : Nat → Prop) (w : World) (hT : TTx w P a len cap R) (hG : GoodT s R) (hn1 : 0 ≤ n) (hn2 : n ≤ 1000000000000) (h0 : tooE (putR s x n R) = 0) :
    Calls Try.prog 17 #[.agg #[.int .i64 s, .slice a len cap], .int .i64 x, .int .i64 n] w fun e w' => ∃ (a' : Option Addr) (c' : Nat), e = .returned (.tuple #[.agg #[.int .i64 s, .slice a' len c'], .int .i64 0]) ∧ TTx w' (fun b => w.heap.size ≤ b) a' len c' (putR s x n R) ∧ Below w.heap.size w w' := by
  have hl := hT.len
  refine (tput_ok s x n a len cap R P w hT hG hn1 hn2).mono ?_
  rintro e w' ⟨S, a', l', c', R', rfl, ⟨_, rfl, rfl⟩ | ⟨h, _⟩, htt, hb⟩
  · obtain rfl : len = l' := by have := htt.len; rw [putR_len, hl] at this; exact this
    exact ⟨a', c', by rw [h0], htt, hb⟩
  · exact absurd h0 h

set_option maxRecDepth 100000 in
set_option maxHeartbeats 4000000 in
theorem counted_any (s : Nat) (a q : Option Addr) (len cap n c : Nat) (R : List (List Int)) (C : List (Int × Int)) (P : Nat → Prop) (M : Int) (w : World) (hT : TTx w P a len cap R) (hC : Tab w q n c 2 (C.map iiC)) (hG : GoodT s R) (hM : Most M R) (h0 : 0 ≤ M) (hp : ∀ p ∈ C, 0 ≤ p.2) (hS : M + sumN C ≤ 1000000000000) :
    Calls Try.prog 29 #[.agg #[.int .i64 s, .slice a len cap], .slice q n c] w fun e w' => ∃ (a' : Option Addr) (c' : Nat), e = .returned (.tuple #[.agg #[.int .i64 s, .slice a' len c'], .bool true]) ∧ TTx w' anyB a' len c' (allR s C R) ∧ Below w.heap.size w w' := by
  have hn := hC.hlen
  rw [List.length_map] at hn
  have hm := hC.hmax
  have hle := hC.hle
  unfold maxLen at hm
  have hb0 : Below w.heap.size w ((w.alloc (.cells #[.int .i64 s, .slice a len cap] 39)).alloc (.cells #[.int .i64 0, .slice none 0 0] 39)) := ((Below.refl _ _).alloc (Nat.le_refl _) _).alloc (by simp) _
  have k1 : ((w.alloc (.cells #[.int .i64 s, .slice a len cap] 39)).alloc (.cells #[.int .i64 0, .slice none 0 0] 39)).heap[w.heap.size]? = some (.cells #[.int .i64 s, .slice a len cap] 39 (0, 0)) := (boxes_new _ _ _).trans (MapKept.heap_alloc w _).1
  have k2 : ((w.alloc (.cells #[.int .i64 s, .slice a len cap] 39)).alloc (.cells #[.int .i64 0, .slice none 0 0] 39)).heap[w.heap.size + 1]? = some (.cells #[.int .i64 0, .slice none 0 0] 39 (0, 0)) := (boxes_snd _ _ _).trans (MapKept.heap_alloc _ _).1
  have hT0 := (hT.size.weak (Q := fun b => b ≠ w.heap.size ∧ b ≠ w.heap.size + 1) (fun b hb => by have := hb.2; omega)).below hb0
  obtain ⟨v0, hv0⟩ : ∃ v, (w.alloc (.cells #[.int .i64 s, .slice a len cap] 39)).alloc (.cells #[.int .i64 0, .slice none 0 0] 39) = v := ⟨_, rfl⟩
  rw [hv0] at hb0 k1 k2 hT0
  have HV := Lib.hid hv0
  have HB0 := Lib.hid hb0
  have K1 := Lib.hid k1
  have K2 := Lib.hid k2
  have HT0 := Lib.hid hT0
  have HCT := Lib.hid hC
  have HN := Lib.hid hn
  have HP := Lib.hid hp
  have HGM := Lib.hid (And.intro hG hM)
  have HS := Lib.hid hS
  clear hT hv0 hb0 k1 k2 hT0 hC hn hp hG hM hS
  go_enter Try.func29, Try.ntmps29
  go_upto_region 1 with fail
  rw [HV.out]
  obtain ⟨X, hX⟩ : ∃ X, w.heap.size = X := ⟨_, rfl⟩
  rw [hX] at K1 K2 HT0 ⊢
  have HX := Lib.hid hX
  clear HV hX
  go_wp2_with fail
  go_loopg [12] n (fun g i wr => ∃ (k : Nat) (a' : Option Addr) (c' : Nat), k + g = n ∧ i = .int .i64 k ∧ Hid (TTx wr (fun b => b ≠ X ∧ b ≠ X + 1) a' len c' (allR s (C.take k) R)) ∧ Hid (wr.heap[X]? = some (.cells #[.int .i64 s, .slice a' len c'] 39 (0, 0))) ∧ Hid (wr.heap[X + 1]? = some (.cells #[.int .i64 0, .slice none 0 0] 39 (0, 0))) ∧ Hid (Below w.heap.size w wr))
  case atStart => exact ⟨0, a, cap, by omega, rfl, HT0, K1, K2, HB0⟩
  case round =>
    clear HT0 K1 K2 HB0
    obtain ⟨k, a', c', hk0, rfl, HT, K1, K2, HW⟩ := hrel
    have HJ := Lib.hid hk0
    have hk : k ≤ n := by omega
    clear hk0
    have hXs : X + 1 < wr.heap.size := (Array.getElem?_eq_some_iff.1 K2.out).1
    by_cases hlt : k < n
    · obtain ⟨p, hp⟩ : ∃ x, C[k]? = some x := ⟨_, List.getElem?_eq_getElem (by rw [HN.out]; exact hlt)⟩
      obtain ⟨b1, o1, ha, hbs, c0, c1⟩ := HCT.out.two HW.out (map_get hp)
      have hpm := HP.out p (List.mem_of_getElem? hp)
      have hsn := allR_snoc (s := s) (R := R) hp
      have htk := sum_take HP.out (k + 1)
      have hsp : sumN (C.take (k + 1)) = sumN (C.take k) + p.2 := by rw [List.take_add_one, hp, Option.toList_some, sumN_snoc]
      have hag := all_good (C := C.take k) HGM.out.1 HGM.out.2 (fun r hr => HP.out r (List.mem_of_mem_take hr)) (by have := HS.out; omega)
      have hfit := put_fits (x := p.1) hag.1 hpm hag.2 (by have := HS.out; omega)
      have hs0 : 0 ≤ sumN (C.take k) := by
        have := sum_take (C := C.take k) (fun r hr => HP.out r (List.mem_of_mem_take hr)) 0
        simpa [sumN] using this
      have hpb : p.2 ≤ 1000000000000 := by have := HS.out; omega
      obtain ⟨key, cnt⟩ := p
      simp only at hpm hsn hfit hpb c0 c1
      have HPT := Lib.hid (fun U (h : TTx U (fun b => b ≠ X ∧ b ≠ X + 1) a' len c' (allR s (C.take k) R)) => tput_fine s key cnt a' len c' _ _ U h hag.1 hpm hpb hfit)
      have HSN := Lib.hid hsn
      obtain ⟨wo, hwo⟩ : ∃ wo, wo = wr := ⟨_, rfl⟩
      subst hwo
      generalize allR s (C.take k) R = Rk at *
      have hal : Below wo.heap.size wo (wo.alloc (.cells #[.int .i64 key, .int .i64 cnt] 63)) := (Below.refl _ _).alloc (Nat.le_refl _) _
      have kc := (MapKept.heap_alloc wo (.cells #[.int .i64 key, .int .i64 cnt] 63)).1
      obtain ⟨w1, hw1⟩ : ∃ v, wo.alloc (.cells #[.int .i64 key, .int .i64 cnt] 63) = v := ⟨_, rfl⟩
      rw [hw1] at hal kc
      have HW1 := Lib.hid (below_on HW.out hal)
      have HT1 := Lib.hid (HT.out.below hal)
      have J1 := Lib.hid (kept hal K1.out)
      have J2 := Lib.hid (kept hal K2.out)
      have HV1 := Lib.hid hw1
      have HKC := Lib.hid kc
      have hX1 : X + 1 < w1.heap.size := Nat.lt_of_lt_of_le hXs hal.size
      subst ha
      clear hp hsn htk hsp hag hfit hs0 hal kc hw1 HT K1 K2 hXs
      go_upto_region 4 with fail
      rw [HV1.out]
      obtain ⟨Y, hY⟩ : ∃ Y, wo.heap.size = Y := ⟨_, rfl⟩
      rw [hY] at HKC ⊢
      clear HV1 hY
      obtain ⟨⟨d0, d1⟩, _⟩ := two_cells J1.out
      obtain ⟨⟨e0, e1⟩, _⟩ := box_two HKC.out
      go_wp2_with fail
      clear d0 d1 e0 e1
      refine (HPT.out _ HT1.out).mono ?_
      rintro e w2 ⟨a2, c2, rfl, htt, hb2⟩
      have HTT := Lib.hid (htt.weak (Q := fun b => b ≠ X ∧ b ≠ X + 1) (fun b hb => by omega))
      have HW2 := Lib.hid (below_on HW1.out hb2)
      have L1 := Lib.hid (kept hb2 J1.out)
      have L2 := Lib.hid (kept hb2 J2.out)
      have hal2 : Below w2.heap.size w2 (w2.alloc (.cells #[.int .i64 s, .slice a2 len c2] 39)) := (Below.refl _ _).alloc (Nat.le_refl _) _
      have kx := (MapKept.heap_alloc w2 (.cells #[.int .i64 s, .slice a2 len c2] 39)).1
      obtain ⟨w3, hw3⟩ : ∃ v, w2.alloc (.cells #[.int .i64 s, .slice a2 len c2] 39) = v := ⟨_, rfl⟩
      rw [hw3] at hal2 kx
      have HW3 := Lib.hid (below_on HW2.out hal2)
      have HT3 := Lib.hid (HTT.out.below hal2)
      have M1 := Lib.hid (kept hal2 L1.out)
      have M2 := Lib.hid (kept hal2 L2.out)
      have HV3 := Lib.hid hw3
      have HKX := Lib.hid kx
      clear htt hb2 hal2 kx hw3 HPT HT1 J1 J2 HW1 HW2 L1 L2 HTT
      go_upto_region 5 with fail
      rw [HV3.out]
      obtain ⟨Z, hZ⟩ : ∃ Z, w2.heap.size = Z := ⟨_, rfl⟩
      rw [hZ] at HKX ⊢
      clear HV3 hZ
      obtain ⟨⟨d0, d1⟩, d2, d3⟩ := two_cells M1.out
      obtain ⟨⟨e0, e1⟩, _⟩ := two_cells HKX.out
      have hset := two_set (x' := s) (v' := .slice a2 len c2) M1.out
      have HSET := Lib.hid hset
      have HTZ := Lib.hid ((HT3.out.set (Y := X) (fun b hb => hb.1) 0 (.int .i64 s)).set (Y := X) (fun b hb => hb.1) 1 (.slice a2 len c2))
      have HWZ := Lib.hid (below_two HW3.out (b := X) (by rw [HX.out]; exact Nat.le_refl _) (.int .i64 s) (.slice a2 len c2))
      have HMZ := Lib.hid (blk_else (a := ⟨X, 1, none⟩) (v := .slice a2 len c2) (blk_else (a := ⟨X, 0, none⟩) (v := .int .i64 s) M2.out (by show X + 1 ≠ X; omega)) (by show X + 1 ≠ X; omega))
      clear hset HT3 HW3 M1 M2 HKX
      go_wp2_with fail
      go_roundg (n - (k + 1))
      case measure => have := HJ.out; omega
      case rel => exact ⟨k + 1, a2, c2, by omega, by go_num, by rw [HSN.out]; exact HTZ, HSET, HMZ, HWZ⟩
    · obtain rfl : k = n := by omega
      have hT := HT.out
      rw [List.take_of_length_le (by rw [HN.out]; exact Nat.le_refl _)] at hT
      have HTZ := Lib.hid ((hT.set (Y := X + 1) (fun b hb => hb.2) 0 (.int .i64 s)).set (Y := X + 1) (fun b hb => hb.2) 1 (.slice a' len c')).any
      have hz := zero_two K2.out s (.slice a' len c')
      have hbz := below_two HW.out (b := X + 1) (by rw [HX.out]; omega) (.int .i64 s) (.slice a' len c')
      obtain ⟨⟨z0, z1⟩, f0, f1⟩ := two_cells K2.out
      obtain ⟨⟨b0, b1⟩, _⟩ := two_cells K1.out
      have HBZ := Lib.hid hbz
      have HZ := Lib.hid hz
      clear hbz hz hT HT
      go_wp2_with fail
      obtain ⟨y0, y1⟩ := HZ.out
      generalize ((wr.setCell { block := X + 1, off := 0 } (Value.int IntKind.i64 s)).setCell { block := X + 1, off := 1 } (Value.slice a' len c')) = w8 at *
      clear z0 z1 f0 f1 b0 b1
      try simp only [Exit.inBlock, Exit.then]
      refine bodyPost_ret (by simp [results, Try.results29, go_sem, y0, y1, Result.andThen]; try rfl) rfl ?_
      exact ⟨_, _, rfl, HTZ.out, HBZ.out⟩
end Go.Proofs.Ytcfejbhoeichnaa
