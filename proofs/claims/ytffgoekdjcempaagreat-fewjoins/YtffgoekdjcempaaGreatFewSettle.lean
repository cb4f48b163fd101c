/- The contract of the program's few.settle: counters, of which there may be too many and too great ones, made a sketch. -/
import Derived.Test.YtffgoekdjcempaaGreatFewLower
import Derived.Test.YtffgoekdjcempaaGreatFindCounters
namespace Go.Proofs.YtffgoekdjcempaaGreat
open Go.ChangeShapes Go.WideShapes Go.ChangeAt Go.RowKit
open Few

namespace Few
def bigC (c : Int × Int) : Bool := decide (1000000000000 < c.2)
/-- what is wrong with what comes out -/
def setE (L : Int) (C : List (Int × Int)) : Int := if 1000000000000 < L then 2 else if C.any bigC = true then 2 else 0
/-- what comes out: a sketch, or none and an error -/
def Out (E K L : Int) (C : List (Int × Int)) (Kr Lr : Int) (Cr : List (Int × Int)) : Prop := (E = 0 ∧ Kr = K ∧ Lr = L ∧ Cr = C) ∨ (E ≠ 0 ∧ Kr = 0 ∧ Lr = 0 ∧ Cr = [])
end Few

set_option maxRecDepth 100000 in
theorem isBig_any (k n : Int) (w : World) : Calls Tryz.prog 35 #[.agg #[.int .i64 k, .int .i64 n]] w fun e w' => e = .returned (.bool (bigC (k, n))) ∧ Below w.heap.size w w' := by
  have HB := Lib.hid (show Below w.heap.size w (w.alloc (.cells #[.int .i64 k, .int .i64 n] 37)) from (Below.refl _ _).alloc (Nat.le_refl _) _)
  unfold bigC
  go_enter Tryz.func35, Tryz.ntmps35
  go_wp2
  go_ret
  exact ⟨rfl, HB.out⟩

set_option maxRecDepth 100000 in
set_option maxHeartbeats 4000000 in
theorem settle_any (K : Nat) (L : Int) (a : Option Addr) (len cap : Nat) (C : List (Int × Int)) (w : World) (h : Tab w a len cap 2 (C.map iiC)) (hK : K ≤ 16) (hl1 : len ≤ 10000) (hL0 : 0 ≤ L) (hL1 : L ≤ 1000000000000000) (hC : ∀ d ∈ C, 1 ≤ d.2 ∧ d.2 ≤ 1000000000000000) :
    Calls Tryz.prog 19 #[.int .i64 K, .int .i64 L, .slice a len cap] w fun e w' => ∃ (Kr Lr : Int) (Cr : List (Int × Int)) (v : Value), e = .returned (.tuple #[.agg #[.int .i64 Kr, .int .i64 Lr, v], .int .i64 (setE (L + exC C K) (lowC (exC C K) C))]) ∧ Out (setE (L + exC C K) (lowC (exC C K) C)) K (L + exC C K) (lowC (exC C K) C) Kr Lr Cr ∧ Own w' w.heap.size 37 2 v (Cr.map iiC) ∧ Below w.heap.size w w' := by
  have hl := h.hlen
  rw [List.length_map] at hl
  obtain ⟨z0, _, _, _⟩ := exC_all (C := C) (k := K) (fun c hc => (hC c hc).1)
  have z1 : exC C K ≤ 1000000000000000 := by
    by_cases hk : C.length ≤ K
    · unfold exC; rw [if_pos hk]; decide
    · obtain ⟨e, he, hm, _⟩ := srt_at (l := nums C) (i := C.length - 1 - K) (by rw [nums_len]; omega)
      have : exC C K = e := by unfold exC; rw [if_neg hk, List.getD_eq_getElem?_getD, he]; rfl
      rw [this]
      obtain ⟨c, hc, rfl⟩ := List.mem_map.1 hm
      exact (hC c hc).2
  have hb0 : Below w.heap.size w (w.alloc (.cells #[.int .i64 0, .int .i64 0, .slice none 0 0] 24)) := (Below.refl _ _).alloc (Nat.le_refl _) _
  have k0 := (MapKept.heap_alloc w (.cells #[.int .i64 0, .int .i64 0, .slice none 0 0] 24)).1
  obtain ⟨v0, hv0⟩ : ∃ v, w.alloc (.cells #[.int .i64 0, .int .i64 0, .slice none 0 0] 24) = v := ⟨_, rfl⟩
  rw [hv0] at hb0 k0
  have HE := Lib.hid (excess_any a len cap C K v0 (h.below hb0) hl1 (by omega))
  have HLo := Lib.hid (fun (W : World) (hb : Below w.heap.size w W) => lower_any a len cap C (exC C K) W (h.below hb) hl1 (fun d hd => by have := hC d hd; omega) z0)
  obtain ⟨D, hD⟩ : ∃ D, lowC (exC C K) C = D := ⟨_, rfl⟩
  rw [hD] at HLo ⊢
  generalize exC C K = z at *
  obtain ⟨E, hE⟩ : ∃ E, setE (L + z) D = E := ⟨_, rfl⟩
  rw [hE]
  have HEE := Lib.hid hE
  have HV := Lib.hid hv0
  have HB0 := Lib.hid hb0
  have K0 := Lib.hid k0
  obtain ⟨S, hS⟩ : ∃ S, L + z = S := ⟨_, rfl⟩
  rw [hS] at HEE ⊢
  have hS0 : 0 ≤ S := by omega
  have hS1 : S ≤ 2000000000000000 := by omega
  clear h hl hC hb0 k0 hv0 hD hE
  go_enter Tryz.func19, Tryz.ntmps19
  go_upto_region 1 with fail
  rw [HV.out]
  obtain ⟨X, hX⟩ : ∃ X, w.heap.size = X := ⟨_, rfl⟩
  have HX := Lib.hid hX
  rw [hX] at K0 ⊢
  clear HV hX
  go_wp2_with fail
  refine HE.out.mono ?_
  rintro e w1 ⟨rfl, hb1⟩
  have HB1 := Lib.hid (below_on HB0.out hb1)
  replace K0 := Lib.hid (kept_blk hb1 K0.out)
  have HL1 := Lib.hid (HLo.out w1 HB1.out)
  have HX1 := Lib.hid (show X < w1.heap.size from (Array.getElem?_eq_some_iff.1 K0.out).1)
  clear hb1 HB0 HE HLo
  go_wp2_with fail
  refine HL1.out.mono ?_
  rintro e w2 ⟨v, rfl, hO, hb2⟩
  obtain ⟨nD, hnD⟩ : ∃ n, D.length = n := ⟨_, rfl⟩
  obtain ⟨aD, cD, rfl, hTD⟩ := own_ctrs hO hnD
  have HB2 := Lib.hid (below_on HB1.out hb2)
  replace K0 := Lib.hid (kept_blk hb2 K0.out)
  have hal : Below w2.heap.size w2 (w2.alloc (.cells #[.int .i64 K, .int .i64 S, .slice aD nD cD] 24)) := (Below.refl _ _).alloc (Nat.le_refl _) _
  have kY := (MapKept.heap_alloc w2 (.cells #[.int .i64 K, .int .i64 S, .slice aD nD cD] 24)).1
  have hO3 := hO.below hal
  obtain ⟨w3, hw3⟩ : ∃ v, w2.alloc (.cells #[.int .i64 K, .int .i64 S, .slice aD nD cD] 24) = v := ⟨_, rfl⟩
  rw [hw3] at hal kY hO3
  replace K0 := Lib.hid (kept_blk hal K0.out)
  have HB3 := Lib.hid (below_on HB2.out hal)
  have HO3 := Lib.hid hO3
  have HT3 := Lib.hid (hTD.below hal)
  have KY := Lib.hid kY
  have HV3 := Lib.hid hw3
  have HXS := Lib.hid (HB1.out.size)
  clear hO hTD hb2 hal kY hO3 hw3 HL1 HB1 HB2
  go_upto_region 4 with fail
  rw [HV3.out]
  obtain ⟨Y, hY⟩ : ∃ Y, w2.heap.size = Y := ⟨_, rfl⟩
  rw [hY] at KY ⊢
  clear HV3 hY
  obtain ⟨⟨y0, y1, y2⟩, _⟩ := three_all KY.out
  by_cases hS2 : 1000000000000 < S
  · obtain rfl : E = 2 := by rw [← HEE.out]; unfold setE; rw [if_pos hS2]
    obtain ⟨⟨x0, x1, x2⟩, f0, f1, f2⟩ := three_all K0.out
    have Z := three_all (three_set (x' := 0) (y' := 0) (v' := .slice none 0 0) K0.out)
    have HBZ := Lib.hid (three_below HB3.out (by rw [HX.out]; exact Nat.le_refl _) (b := X) 0 0 (.slice none 0 0))
    have HOZ : Hid (Own (((w3.setCell ⟨X, 0, none⟩ (.int .i64 0)).setCell ⟨X, 1, none⟩ (.int .i64 0)).setCell ⟨X, 2, none⟩ (.slice none 0 0)) w.heap.size 37 2 (.slice none 0 0) ([].map iiC)) := Lib.hid (Own.nil _ _ _ _)
    clear HO3 HT3 HEE
    go_wp2_with fail
    obtain ⟨⟨z0, z1, z2⟩, _⟩ := Z
    generalize (((w3.setCell { block := X, off := 0 } (Value.int IntKind.i64 0)).setCell { block := X, off := 1 } (Value.int IntKind.i64 0)).setCell { block := X, off := 2 } (Value.slice none 0 0)) = w9 at *
    clear x0 x1 x2 f0 f1 f2 y0 y1 y2
    try simp only [Exit.inBlock, Exit.then]
    refine bodyPost_ret (by simp [results, Tryz.results19, go_sem, z0, z1, z2, Result.andThen]; try rfl) rfl ?_
    exact ⟨0, 0, [], _, rfl, Or.inr ⟨by decide, rfl, rfl, rfl⟩, HOZ.out, HBZ.out⟩
  · have hS3 : S ≤ 1000000000000 := by omega
    have HCF := Lib.hid (containsCtr0_any 35 bigC aD nD cD D w3 HT3.out (fun _ _ _ => rfl) (fun x _ W _ => isBig_any x.1 x.2 W))
    cases hany : D.any bigC
    · rw [hany] at HCF
      obtain rfl : E = 0 := by rw [← HEE.out]; unfold setE; rw [if_neg hS2, hany]; rfl
      clear hS2 hany HEE
      go_wp2_with fail
      refine HCF.out.mono ?_
      rintro e w4 ⟨rfl, hb4⟩
      have KY4 := Lib.hid (kept_blk hb4 KY.out)
      replace K0 := Lib.hid (kept_blk hb4 K0.out)
      have HO4 := Lib.hid (HO3.out.below hb4)
      have HB4 := Lib.hid (below_on HB3.out hb4)
      clear hb4 HCF y0 y1 y2
      obtain ⟨⟨y0, y1, y2⟩, _⟩ := three_all KY4.out
      obtain ⟨⟨x0, x1, x2⟩, f0, f1, f2⟩ := three_all K0.out
      have Z := three_all (three_set (x' := (K : Int)) (y' := S) (v' := .slice aD nD cD) K0.out)
      have HBZ := Lib.hid (three_below HB4.out (by rw [HX.out]; exact Nat.le_refl _) (b := X) (K : Int) S (.slice aD nD cD))
      have HOZ := Lib.hid ((three_own HO4.out HX1.out (K : Int) S (.slice aD nD cD)).base_le HXS.out)
      clear HO3 HT3 HO4
      go_wp2_with fail
      obtain ⟨⟨z0, z1, z2⟩, _⟩ := Z
      generalize (((w4.setCell { block := X, off := 0 } (Value.int IntKind.i64 (K : Int))).setCell { block := X, off := 1 } (Value.int IntKind.i64 S)).setCell { block := X, off := 2 } (Value.slice aD nD cD)) = w9 at *
      clear x0 x1 x2 f0 f1 f2 y0 y1 y2
      try simp only [Exit.inBlock, Exit.then]
      refine bodyPost_ret (by simp [results, Tryz.results19, go_sem, z0, z1, z2, Result.andThen]; try rfl) rfl ?_
      exact ⟨K, S, D, _, rfl, Or.inl ⟨rfl, rfl, rfl, rfl⟩, HOZ.out, HBZ.out⟩
    · rw [hany] at HCF
      obtain rfl : E = 2 := by rw [← HEE.out]; unfold setE; rw [if_neg hS2, hany]; rfl
      clear hS2 hany HEE
      go_wp2_with fail
      refine HCF.out.mono ?_
      rintro e w4 ⟨rfl, hb4⟩
      replace K0 := Lib.hid (kept_blk hb4 K0.out)
      have HB4 := Lib.hid (below_on HB3.out hb4)
      clear hb4 HCF y0 y1 y2
      obtain ⟨⟨x0, x1, x2⟩, f0, f1, f2⟩ := three_all K0.out
      have Z := three_all (three_set (x' := 0) (y' := 0) (v' := .slice none 0 0) K0.out)
      have HBZ := Lib.hid (three_below HB4.out (by rw [HX.out]; exact Nat.le_refl _) (b := X) 0 0 (.slice none 0 0))
      have HOZ : Hid (Own (((w4.setCell ⟨X, 0, none⟩ (.int .i64 0)).setCell ⟨X, 1, none⟩ (.int .i64 0)).setCell ⟨X, 2, none⟩ (.slice none 0 0)) w.heap.size 37 2 (.slice none 0 0) ([].map iiC)) := Lib.hid (Own.nil _ _ _ _)
      clear HO3 HT3
      go_wp2_with fail
      obtain ⟨⟨z0, z1, z2⟩, _⟩ := Z
      generalize (((w4.setCell { block := X, off := 0 } (Value.int IntKind.i64 0)).setCell { block := X, off := 1 } (Value.int IntKind.i64 0)).setCell { block := X, off := 2 } (Value.slice none 0 0)) = w9 at *
      clear x0 x1 x2 f0 f1 f2
      try simp only [Exit.inBlock, Exit.then]
      refine bodyPost_ret (by simp [results, Tryz.results19, go_sem, z0, z1, z2, Result.andThen]; try rfl) rfl ?_
      exact ⟨0, 0, [], _, rfl, Or.inr ⟨by decide, rfl, rfl, rfl⟩, HOZ.out, HBZ.out⟩
end Go.Proofs.YtffgoekdjcempaaGreat
