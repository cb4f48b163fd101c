/- The contract of the program's few.Join, whatever is handed in. -/
import Derived.Test.YtffgoekdjcempaaGreatFewVar
namespace Go.Proofs.YtffgoekdjcempaaGreat
open Go.ChangeShapes Go.WideShapes Go.ChangeAt Go.RowKit
open Few

namespace Few
def joinZ (K : Int) (C D : List (Int × Int)) : Int := exC (addAll C D) K.toNat
def joinC (K : Int) (C D : List (Int × Int)) : List (Int × Int) := lowC (joinZ K C D) (addAll C D)
def joinE (K L : Int) (C : List (Int × Int)) (K2 L2 : Int) (D : List (Int × Int)) : Int := if fewE K L C ≠ 0 then fewE K L C else if fewE K2 L2 D ≠ 0 then fewE K2 L2 D else if K ≠ K2 then 7 else setE (L + L2 + joinZ K C D) (joinC K C D)
theorem addAll_bd {C : List (Int × Int)} (hC : ∀ d ∈ C, 1 ≤ d.2 ∧ d.2 ≤ 1000000000000) : ∀ {D : List (Int × Int)} (k : Nat), (∀ d ∈ D, 1 ≤ d.2 ∧ d.2 ≤ 1000000000000) → k ≤ D.length → ∀ d ∈ addAll C (D.take k), 1 ≤ d.2 ∧ d.2 ≤ 1000000000000 + k * 1000000000000
  | D, 0, _, _, d, hd => by
    have := hC d (by simpa [addAll] using hd)
    simp; exact this
  | D, k + 1, hD, hk, d, hd => by
    obtain ⟨c, hc⟩ : ∃ c, D[k]? = some c := ⟨_, List.getElem?_eq_getElem (by omega)⟩
    rw [addAll_snoc hc] at hd
    have ih := addAll_bd hC k hD (by omega)
    have h2 := hD c (List.mem_of_getElem? hc)
    have := addC_bd (M := 1000000000000 + k * 1000000000000) ih h2.1 h2.2 (by omega) d hd
    refine ⟨this.1, ?_⟩
    have h3 := this.2
    rw [Int.natCast_add, Int.add_mul]
    omega
/-- the two sketches, the one to come -/
structure Box3 (w : World) (X : Nat) (K L : Int) (q : Option Addr) (n c : Nat) (K2 L2 : Int) (q2 : Option Addr) (n2 c2 : Nat) : Prop where
  k1 : w.heap[X]? = some (.cells #[.int .i64 K, .int .i64 L, .slice q n c] 24 (0, 0))
  k2 : w.heap[X + 1]? = some (.cells #[.int .i64 K2, .int .i64 L2, .slice q2 n2 c2] 24 (0, 0))
  k3 : w.heap[X + 2]? = some (.cells #[.int .i64 0, .int .i64 0, .slice none 0 0] 24 (0, 0))
theorem Box3.kept {w w' : World} {X : Nat} {K L : Int} {q : Option Addr} {n c : Nat} {K2 L2 : Int} {q2 : Option Addr} {n2 c2 : Nat} {B : Nat} (h : Box3 w X K L q n c K2 L2 q2 n2 c2) (hb : Below B w w') (hB : X + 2 < B) : Box3 w' X K L q n c K2 L2 q2 n2 c2 :=
  ⟨below_blk hb h.k1 (by omega), below_blk hb h.k2 (by omega), below_blk hb h.k3 hB⟩
theorem Box3.lt {w : World} {X : Nat} {K L : Int} {q : Option Addr} {n c : Nat} {K2 L2 : Int} {q2 : Option Addr} {n2 c2 : Nat} (h : Box3 w X K L q n c K2 L2 q2 n2 c2) : X + 2 < w.heap.size := (Array.getElem?_eq_some_iff.1 h.k3).1
end Few

set_option maxRecDepth 100000 in
set_option maxHeartbeats 6000000 in
theorem fewJoin_any (K L : Int) (a : Option Addr) (len cap : Nat) (C : List (Int × Int)) (K2 L2 : Int) (b : Option Addr) (lb cb : Nat) (D : List (Int × Int)) (w : World) (h : Tab w a len cap 2 (C.map iiC)) (g : Tab w b lb cb 2 (D.map iiC)) :
    Calls Tryz.prog 13 #[fewV K L a len cap, fewV K2 L2 b lb cb] w fun e w' => ∃ (Kr Lr : Int) (Cr : List (Int × Int)) (v : Value), e = .returned (.tuple #[.agg #[.int .i64 Kr, .int .i64 Lr, v], .int .i64 (joinE K L C K2 L2 D)]) ∧ Out (joinE K L C K2 L2 D) K (L + L2 + joinZ K C D) (joinC K C D) Kr Lr Cr ∧ Own w' w.heap.size 37 2 v (Cr.map iiC) ∧ Below w.heap.size w w' := by
  have hl := h.hlen
  rw [List.length_map] at hl
  have hg := g.hlen
  rw [List.length_map] at hg
  have hb0 : Below w.heap.size w (((w.alloc (.cells #[.int .i64 K, .int .i64 L, .slice a len cap] 24)).alloc (.cells #[.int .i64 K2, .int .i64 L2, .slice b lb cb] 24)).alloc (.cells #[.int .i64 0, .int .i64 0, .slice none 0 0] 24)) := (((Below.refl _ _).alloc (Nat.le_refl _) _).alloc (by simp) _).alloc (by simp; omega) _
  have kb : Box3 (((w.alloc (.cells #[.int .i64 K, .int .i64 L, .slice a len cap] 24)).alloc (.cells #[.int .i64 K2, .int .i64 L2, .slice b lb cb] 24)).alloc (.cells #[.int .i64 0, .int .i64 0, .slice none 0 0] 24)) w.heap.size K L a len cap K2 L2 b lb cb := by
    refine ⟨?_, ?_, ?_⟩
    · rw [Below.heap_alloc _ _ _ (by simp; omega), Below.heap_alloc _ _ _ (by simp)]
      exact (MapKept.heap_alloc w _).1
    · rw [Below.heap_alloc _ _ _ (by simp)]
      have := (MapKept.heap_alloc (w.alloc (.cells #[.int .i64 K, .int .i64 L, .slice a len cap] 24)) (.cells #[.int .i64 K2, .int .i64 L2, .slice b lb cb] 24)).1
      simpa using this
    · have := (MapKept.heap_alloc ((w.alloc (.cells #[.int .i64 K, .int .i64 L, .slice a len cap] 24)).alloc (.cells #[.int .i64 K2, .int .i64 L2, .slice b lb cb] 24)) (.cells #[.int .i64 0, .int .i64 0, .slice none 0 0] 24)).1
      simpa using this
  obtain ⟨v0, hv0⟩ : ∃ v, (((w.alloc (.cells #[.int .i64 K, .int .i64 L, .slice a len cap] 24)).alloc (.cells #[.int .i64 K2, .int .i64 L2, .slice b lb cb] 24)).alloc (.cells #[.int .i64 0, .int .i64 0, .slice none 0 0] 24)) = v := ⟨_, rfl⟩
  rw [hv0] at hb0 kb
  have HT := Lib.hid h
  have HG := Lib.hid g
  have HL := Lib.hid hl
  have HM := Lib.hid hg
  have c1 := fewCheck_any K L a len cap C v0 (h.below hb0)
  have c2 := fun (W : World) (hb : Below w.heap.size w W) => fewCheck_any K2 L2 b lb cb D W (g.below hb)
  obtain ⟨F, hF⟩ : ∃ F, fewE K L C = F := ⟨_, rfl⟩
  obtain ⟨G, hG⟩ : ∃ G, fewE K2 L2 D = G := ⟨_, rfl⟩
  rw [hF] at c1
  rw [hG] at c2
  unfold fewV at c1 c2 ⊢
  have HC1 := Lib.hid c1
  have HC2 := Lib.hid c2
  obtain ⟨E, hE⟩ : ∃ E, joinE K L C K2 L2 D = E := ⟨_, rfl⟩
  obtain ⟨Z, hZ⟩ : ∃ Z, joinZ K C D = Z := ⟨_, rfl⟩
  obtain ⟨J, hJ⟩ : ∃ J, joinC K C D = J := ⟨_, rfl⟩
  rw [hE, hZ, hJ]
  have HE := Lib.hid hE
  have HF := Lib.hid hF
  have HGG := Lib.hid hG
  have HZ := Lib.hid hZ
  have HJ := Lib.hid hJ
  have HV := Lib.hid hv0
  have HB0 := Lib.hid hb0
  have KB := Lib.hid kb
  clear h g hl hg hb0 kb hv0 c1 c2 hE hF hG hZ hJ
  -- how an error is answered
  have bad : ∀ (W : World), Below w.heap.size w W → Box3 W w.heap.size K L a len cap K2 L2 b lb cb →
      ((((W.setCell ⟨w.heap.size + 2, 0, none⟩ (.int .i64 0)).setCell ⟨w.heap.size + 2, 1, none⟩ (.int .i64 0)).setCell ⟨w.heap.size + 2, 2, none⟩ (.slice none 0 0)).heap[w.heap.size + 2]? = some (.cells #[.int .i64 0, .int .i64 0, .slice none 0 0] 24 (0, 0))) ∧ Below w.heap.size w (((W.setCell ⟨w.heap.size + 2, 0, none⟩ (.int .i64 0)).setCell ⟨w.heap.size + 2, 1, none⟩ (.int .i64 0)).setCell ⟨w.heap.size + 2, 2, none⟩ (.slice none 0 0)) := fun W hb hk =>
    ⟨three_set hk.k3, three_below hb (by omega) 0 0 (.slice none 0 0)⟩
  have BAD := Lib.hid bad
  clear bad
  go_enter Tryz.func13, Tryz.ntmps13
  go_upto_region 1 with fail
  rw [HV.out]
  obtain ⟨X, hX⟩ : ∃ X, w.heap.size = X := ⟨_, rfl⟩
  have HX := Lib.hid hX
  rw [hX] at KB BAD ⊢
  clear HV hX
  have HXw := Lib.hid (show w.heap.size ≤ X from by rw [HX.out]; exact Nat.le_refl _)
  obtain ⟨⟨a0, a1, a2⟩, _⟩ := three_all KB.out.k1
  go_wp2_with fail
  clear a0 a1 a2
  refine HC1.out.mono ?_
  rintro e w1 ⟨rfl, hb1⟩
  have HB1 := Lib.hid (below_on HB0.out hb1)
  replace KB := Lib.hid (KB.out.kept hb1 KB.out.lt)
  clear hb1 HB0 HC1
  by_cases hF0 : F = 0
  rotate_left
  · obtain rfl : E = F := by rw [← HE.out]; unfold joinE; rw [if_pos (by rw [HF.out]; exact hF0), HF.out]
    have t : (E != 0) = true := by simpa using hF0
    obtain ⟨Z9, HBZ⟩ := BAD.out w1 (by rw [← HX.out]; exact HB1.out) KB.out
    obtain ⟨⟨x0, x1, x2⟩, f0, f1, f2⟩ := three_all KB.out.k3
    have HZ9 := Lib.hid Z9
    have HBZ := Lib.hid HBZ
    have HF0 := Lib.hid hF0
    clear hF0 Z9
    go_wp2_with fail
    obtain ⟨⟨z0, z1, z2⟩, _⟩ := three_all HZ9.out
    generalize (((w1.setCell { block := X + 2, off := 0 } (Value.int IntKind.i64 0)).setCell { block := X + 2, off := 1 } (Value.int IntKind.i64 0)).setCell { block := X + 2, off := 2 } (Value.slice none 0 0)) = w9 at *
    clear x0 x1 x2 f0 f1 f2
    try simp only [Exit.inBlock, Exit.then]
    refine bodyPost_ret (by simp [results, Tryz.results13, go_sem, z0, z1, z2, Result.andThen]; try rfl) rfl ?_
    exact ⟨0, 0, [], _, rfl, Or.inr ⟨HF0.out, rfl, rfl, rfl⟩, Own.nil _ _ _ _, by rw [HX.out]; exact HBZ.out⟩
  subst hF0
  have HC := Lib.hid (HC2.out w1 HB1.out)
  obtain ⟨⟨a0, a1, a2⟩, _⟩ := three_all KB.out.k2
  go_wp2_with fail
  clear a0 a1 a2
  refine HC.out.mono ?_
  rintro e w2 ⟨rfl, hb2⟩
  have HB2 := Lib.hid (below_on HB1.out hb2)
  replace KB := Lib.hid (KB.out.kept hb2 KB.out.lt)
  clear hb2 HB1 HC HC2
  by_cases hG0 : G = 0
  rotate_left
  · obtain rfl : E = G := by rw [← HE.out]; unfold joinE; rw [if_neg (by rw [HF.out]; decide), if_pos (by rw [HGG.out]; exact hG0), HGG.out]
    have t : (E != 0) = true := by simpa using hG0
    obtain ⟨Z9, HBZ⟩ := BAD.out w2 (by rw [← HX.out]; exact HB2.out) KB.out
    obtain ⟨⟨x0, x1, x2⟩, f0, f1, f2⟩ := three_all KB.out.k3
    have HZ9 := Lib.hid Z9
    have HBZ := Lib.hid HBZ
    have HG0 := Lib.hid hG0
    clear hG0 Z9
    go_wp2_with fail
    obtain ⟨⟨z0, z1, z2⟩, _⟩ := three_all HZ9.out
    generalize (((w2.setCell { block := X + 2, off := 0 } (Value.int IntKind.i64 0)).setCell { block := X + 2, off := 1 } (Value.int IntKind.i64 0)).setCell { block := X + 2, off := 2 } (Value.slice none 0 0)) = w9 at *
    clear x0 x1 x2 f0 f1 f2
    try simp only [Exit.inBlock, Exit.then]
    refine bodyPost_ret (by simp [results, Tryz.results13, go_sem, z0, z1, z2, Result.andThen]; try rfl) rfl ?_
    exact ⟨0, 0, [], _, rfl, Or.inr ⟨HG0.out, rfl, rfl, rfl⟩, Own.nil _ _ _ _, by rw [HX.out]; exact HBZ.out⟩
  subst hG0
  obtain ⟨⟨a0, a1, a2⟩, _⟩ := three_all KB.out.k1
  obtain ⟨⟨b0, b1, b2⟩, _⟩ := three_all KB.out.k2
  by_cases hKK : K = K2
  rotate_left
  · obtain rfl : E = 7 := by rw [← HE.out]; unfold joinE; rw [if_neg (by rw [HF.out]; decide), if_neg (by rw [HGG.out]; decide), if_pos hKK]
    have t : (K != K2) = true := by simpa using hKK
    obtain ⟨Z9, HBZ⟩ := BAD.out w2 (by rw [← HX.out]; exact HB2.out) KB.out
    obtain ⟨⟨x0, x1, x2⟩, f0, f1, f2⟩ := three_all KB.out.k3
    have HZ9 := Lib.hid Z9
    have HBZ := Lib.hid HBZ
    clear hKK Z9
    go_wp2_with fail
    obtain ⟨⟨z0, z1, z2⟩, _⟩ := three_all HZ9.out
    generalize (((w2.setCell { block := X + 2, off := 0 } (Value.int IntKind.i64 0)).setCell { block := X + 2, off := 1 } (Value.int IntKind.i64 0)).setCell { block := X + 2, off := 2 } (Value.slice none 0 0)) = w9 at *
    clear x0 x1 x2 f0 f1 f2 a0 a1 a2 b0 b1 b2
    try simp only [Exit.inBlock, Exit.then]
    refine bodyPost_ret (by simp [results, Tryz.results13, go_sem, z0, z1, z2, Result.andThen]; try rfl) rfl ?_
    exact ⟨0, 0, [], _, rfl, Or.inr ⟨by decide, rfl, rfl, rfl⟩, Own.nil _ _ _ _, by rw [HX.out]; exact HBZ.out⟩
  subst hKK
  have hGC := fewE_zero.1 HF.out
  have hGD := fewE_zero.1 HGG.out
  obtain ⟨k, rfl⟩ : ∃ k : Nat, K = (k : Int) := ⟨K.toNat, by have := hGC.k1; omega⟩
  have hk16 : k ≤ 16 := by have := hGC.k2; omega
  have hlen : len ≤ 16 := by have := hGC.len; rw [HL.out] at this; omega
  have hlb : lb ≤ 16 := by have := hGD.len; rw [HM.out] at this; omega
  have hE2 : E = setE (L + L2 + Z) J := by rw [← HE.out]; unfold joinE; rw [if_neg (by rw [HF.out]; decide), if_neg (by rw [HGG.out]; decide), if_neg (by simp), HZ.out, HJ.out]
  have tK : ((k : Int) != (k : Int)) = false := by simp
  have l1 := hGC.l1
  have l2 := hGC.l2
  have m1 := hGD.l1
  have m2 := hGD.l2
  have HCB := Lib.hid (fun j => addAll_bd (C := C) hGC.num (D := D) j hGD.num)
  have HCO := Lib.hid (fun j => addAll_ord (C := C) (D := D.take j) hGC.ord)
  have HDN := Lib.hid hGD.num
  have HCL := Lib.hid (fun j => addAll_len (D.take j) C)
  have CC := Lib.hid (clone_counters a len cap C w2 (HT.out.below HB2.out) (by omega))
  have HS := Lib.hid (fun (W : World) (q : Option Addr) (m c : Nat) (hT : Tab W q m c 2 ((addAll C D).map iiC)) (hm : (addAll C D).length = m) => settle_any k (L + L2) q m c (addAll C D) W hT hk16 (by have := addAll_len D C; rw [HL.out, HM.out] at this; omega) (by omega) (by omega) (fun d hd => by
    have := addAll_bd (C := C) hGC.num (D := D) D.length hGD.num (Nat.le_refl _) d (by rw [List.take_length]; exact hd)
    rw [HM.out] at this
    have h3 : (lb : Int) * 1000000000000 ≤ 16 * 1000000000000 := Int.mul_le_mul_of_nonneg_right (by omega) (by decide)
    omega))
  have HZ2 : Hid (exC (addAll C D) k = Z) := Lib.hid (by rw [← HZ.out]; rfl)
  have HJ2 : Hid (lowC Z (addAll C D) = J) := Lib.hid (by rw [← HJ.out, ← HZ.out]; rfl)
  rw [HZ2.out, HJ2.out, ← hE2] at HS
  clear hGC hGD hE2 BAD
  go_wp2_with fail
  clear a0 a1 a2 b0 b1 b2
  refine CC.out.mono ?_
  rintro e w3 ⟨v, rfl, hO3, hb3⟩
  have HB3 := Lib.hid (below_on HB2.out hb3)
  have hbs := KB.out.lt
  replace KB := Lib.hid (KB.out.kept hb3 hbs)
  have HO3 := Lib.hid hO3
  have HS2 := Lib.hid hb3.size
  have HXs : Hid (X + 2 < w2.heap.size) := Lib.hid hbs
  have HBQ := Lib.hid HB2.out.size
  obtain ⟨base, hbase⟩ : ∃ s, w2.heap.size = s := ⟨_, rfl⟩
  rw [hbase] at HO3 HXs HS2 HBQ
  clear hb3 hO3 CC hbs hbase HB2
  obtain ⟨⟨b0, b1, b2⟩, _⟩ := three_all KB.out.k2
  go_wp2_with fail
  clear b0 b1 b2
  go_loopg [8, 35] lb (fun gg v i wr => ∃ j : Nat, j + gg = lb ∧ i = .int .i64 j ∧ Hid (Own wr base 37 2 v ((addAll C (D.take j)).map iiC)) ∧ Hid (Box3 wr X k L a len cap k L2 b lb cb) ∧ Hid (base ≤ wr.heap.size) ∧ Hid (Below w.heap.size w wr))
  case atStart => exact ⟨0, by omega, rfl, HO3, KB, HS2, HB3⟩
  case round =>
    clear HO3 KB HS2 HB3
    obtain ⟨j, hj0, rfl, HO, KB, HSZ, HB⟩ := hrel
    have HJJ := Lib.hid hj0
    have hj : j ≤ lb := by omega
    clear hj0
    by_cases hlt : j < lb
    · obtain ⟨⟨key, n⟩, hx⟩ : ∃ x, D[j]? = some x := ⟨_, List.getElem?_eq_getElem (by rw [HM.out]; exact hlt)⟩
      obtain ⟨bb, oo, ha, hbs, p0, p1⟩ := HG.out.two HB.out (map_get hx)
      have hn := HDN.out _ (List.mem_of_getElem? hx)
      simp only at hn
      have hal : Below wr.heap.size wr (wr.alloc (.cells #[.int .i64 key, .int .i64 n] 37)) := (Below.refl _ _).alloc (Nat.le_refl _) _
      have kc := (MapKept.heap_alloc wr (.cells #[.int .i64 key, .int .i64 n] 37)).1
      have hOa := HO.out.below hal
      have hsa := hal.size
      have hAd := fewAdd_any (key := key) (n := n) hOa (HCO.out j) (by have := HCL.out j; rw [List.length_take, HL.out, HM.out] at this; omega) (fun d hd => by
        have := HCB.out j (by rw [HM.out]; omega) d hd
        have h3 : (j : Int) * 1000000000000 ≤ 16 * 1000000000000 := Int.mul_le_mul_of_nonneg_right (by omega) (by decide)
        omega) (by omega) hn.2 (by have := HSZ.out; omega)
      rw [← addAll_snoc hx] at hAd
      obtain ⟨w5, hw5⟩ : ∃ v, wr.alloc (.cells #[.int .i64 key, .int .i64 n] 37) = v := ⟨_, rfl⟩
      rw [hw5] at hal kc hAd hsa
      have HAd := Lib.hid hAd
      have HV5 := Lib.hid hw5
      have KC := Lib.hid kc
      have KB5 := Lib.hid (KB.out.kept hal KB.out.lt)
      have HB5 := Lib.hid (below_on HB.out hal)
      have HS5 : Hid (base ≤ w5.heap.size) := Lib.hid (Nat.le_trans HSZ.out hsa)
      subst ha
      clear hx hn hal kc hOa hAd hsa hw5
      go_upto_region 13 with fail
      rw [HV5.out]
      obtain ⟨Y, hY⟩ : ∃ Y, wr.heap.size = Y := ⟨_, rfl⟩
      rw [hY] at KC ⊢
      clear HV5 hY p0 p1
      obtain ⟨e0, e1⟩ := pair_cells KC.out
      go_wp2_with fail
      clear e0 e1
      refine HAd.out.mono ?_
      rintro e w6 ⟨v6, rfl, hO6, hb6⟩
      have HO6 := Lib.hid hO6
      have KB6 := Lib.hid (KB5.out.kept hb6 HXs.out)
      have HB6 := Lib.hid (HB5.out.trans (hb6.mono HBQ.out))
      have HS6 : Hid (base ≤ w6.heap.size) := Lib.hid (Nat.le_trans HS5.out hb6.size)
      clear hO6 hb6 HAd
      go_wp2_with fail
      go_roundg (lb - (j + 1))
      case measure => have := HJJ.out; omega
      case rel => exact ⟨j + 1, by omega, by go_num, HO6, KB6, HS6, HB6⟩
    · obtain rfl : j = lb := by omega
      rw [List.take_of_length_le (by rw [HM.out]; exact Nat.le_refl _)] at HO
      obtain ⟨nA, hnA⟩ : ∃ m, (addAll C D).length = m := ⟨_, rfl⟩
      obtain ⟨aA, cA, hv, hTA⟩ := own_ctrs HO.out hnA
      have HSe := Lib.hid (HS.out wr aA nA cA hTA hnA)
      subst hv
      clear hTA hnA HS
      obtain ⟨⟨a0, a1, a2⟩, _⟩ := three_all KB.out.k1
      obtain ⟨⟨b0, b1, b2⟩, _⟩ := three_all KB.out.k2
      go_wp2_with fail
      clear a0 a1 a2 b0 b1 b2
      refine HSe.out.mono ?_
      rintro e w5 ⟨Kr, Lr, Cr, v5, rfl, hOut, hO5, hb5⟩
      obtain ⟨nC, hnC⟩ : ∃ m, Cr.length = m := ⟨_, rfl⟩
      obtain ⟨a5, c5, rfl, _⟩ := own_ctrs hO5 hnC
      have hXl := KB.out.lt
      replace KB := Lib.hid (KB.out.kept hb5 hXl)
      have HOut := Lib.hid hOut
      have HB5 := Lib.hid (below_on HB.out hb5)
      have HBZ := Lib.hid (three_below HB5.out (b := X + 2) (by have := HXw.out; omega) Kr Lr (.slice a5 nC c5))
      have HOZ := Lib.hid ((three_own hO5 hXl Kr Lr (.slice a5 nC c5)).base_le (B := w.heap.size) HB.out.size)
      obtain ⟨⟨x0, x1, x2⟩, f0, f1, f2⟩ := three_all KB.out.k3
      have Z9 := three_all (three_set (x' := Kr) (y' := Lr) (v' := .slice a5 nC c5) KB.out.k3)
      clear hOut hO5 hb5 HSe hnC hXl
      go_wp2_with fail
      obtain ⟨⟨z0, z1, z2⟩, _⟩ := Z9
      generalize (((w5.setCell { block := X + 2, off := 0 } (Value.int IntKind.i64 Kr)).setCell { block := X + 2, off := 1 } (Value.int IntKind.i64 Lr)).setCell { block := X + 2, off := 2 } (Value.slice a5 nC c5)) = w9 at *
      clear x0 x1 x2 f0 f1 f2
      try simp only [Exit.inBlock, Exit.then]
      refine bodyPost_ret (by simp [results, Tryz.results13, go_sem, z0, z1, z2, Result.andThen]; try rfl) rfl ?_
      exact ⟨Kr, Lr, Cr, _, rfl, HOut.out, HOZ.out, HBZ.out⟩
end Go.Proofs.YtffgoekdjcempaaGreat
