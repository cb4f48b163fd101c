/- The contract of the program's few.Put, whatever is handed in. -/
import Derived.Test.YtffgoekdjcempaaGreatFewCheck
import Derived.Test.YtffgoekdjcempaaGreatFewAdd
import Derived.Test.YtffgoekdjcempaaGreatFewSettle
import Derived.Test.YtffgoekdjcempaaGreatCloneCounters
namespace Go.Proofs.YtffgoekdjcempaaGreat
open Go.ChangeShapes Go.WideShapes Go.ChangeAt Go.RowKit
open Few

namespace Few
theorem addC_bd {C : List (Int × Int)} {c : Int × Int} {M : Int} (hC : ∀ d ∈ C, 1 ≤ d.2 ∧ d.2 ≤ M) (h1 : 1 ≤ c.2) (h2 : c.2 ≤ 1000000000000) (hM : 1000000000000 ≤ M) : ∀ d ∈ addC C c, 1 ≤ d.2 ∧ d.2 ≤ M + 1000000000000 := by
  intro d hd
  rcases addC_mem hd with h | h | ⟨e, he, _, h⟩
  · have := hC d h; omega
  · rw [h]; omega
  · have := hC e he; rw [h]; simp only; omega
/-- the excess of what is there with one more, and what is left of it -/
def putZ (K : Int) (C : List (Int × Int)) (key n : Int) : Int := exC (addC C (key, n)) K.toNat
def putC (K : Int) (C : List (Int × Int)) (key n : Int) : List (Int × Int) := lowC (putZ K C key n) (addC C (key, n))
def putE (K L : Int) (C : List (Int × Int)) (key n : Int) : Int := if fewE K L C ≠ 0 then fewE K L C else if n < 1 ∨ 1000000000000 < n then 1 else setE (L + putZ K C key n) (putC K C key n)
theorem below_blk {B : Nat} {w1 w2 : World} {b : Nat} {o : Obj} (hb : Below B w1 w2) (h : w1.heap[b]? = some o) (hB : b < B) : w2.heap[b]? = some o := (hb.block b hB).trans h
end Few

set_option maxRecDepth 100000 in
set_option maxHeartbeats 4000000 in
theorem fewPut_any (K L : Int) (a : Option Addr) (len cap : Nat) (C : List (Int × Int)) (key n : Int) (w : World) (h : Tab w a len cap 2 (C.map iiC)) :
    Calls Tryz.prog 5 #[fewV K L a len cap, .int .i64 key, .int .i64 n] w fun e w' => ∃ (Kr Lr : Int) (Cr : List (Int × Int)) (v : Value), e = .returned (.tuple #[.agg #[.int .i64 Kr, .int .i64 Lr, v], .int .i64 (putE K L C key n)]) ∧ Out (putE K L C key n) K (L + putZ K C key n) (putC K C key n) Kr Lr Cr ∧ Own w' w.heap.size 37 2 v (Cr.map iiC) ∧ Below w.heap.size w w' := by
  have hl := h.hlen
  rw [List.length_map] at hl
  have hb0 : Below w.heap.size w ((w.alloc (.cells #[.int .i64 K, .int .i64 L, .slice a len cap] 24)).alloc (.cells #[.int .i64 0, .int .i64 0, .slice none 0 0] 24)) := ((Below.refl _ _).alloc (Nat.le_refl _) _).alloc (by simp) _
  have k1 : ((w.alloc (.cells #[.int .i64 K, .int .i64 L, .slice a len cap] 24)).alloc (.cells #[.int .i64 0, .int .i64 0, .slice none 0 0] 24)).heap[w.heap.size]? = some (.cells #[.int .i64 K, .int .i64 L, .slice a len cap] 24 (0, 0)) := by
    rw [Below.heap_alloc _ _ _ (by simp)]
    exact (MapKept.heap_alloc w _).1
  have k2 : ((w.alloc (.cells #[.int .i64 K, .int .i64 L, .slice a len cap] 24)).alloc (.cells #[.int .i64 0, .int .i64 0, .slice none 0 0] 24)).heap[w.heap.size + 1]? = some (.cells #[.int .i64 0, .int .i64 0, .slice none 0 0] 24 (0, 0)) := by
    have := (MapKept.heap_alloc (w.alloc (.cells #[.int .i64 K, .int .i64 L, .slice a len cap] 24)) (.cells #[.int .i64 0, .int .i64 0, .slice none 0 0] 24)).1
    simpa using this
  obtain ⟨v0, hv0⟩ : ∃ v, (w.alloc (.cells #[.int .i64 K, .int .i64 L, .slice a len cap] 24)).alloc (.cells #[.int .i64 0, .int .i64 0, .slice none 0 0] 24) = v := ⟨_, rfl⟩
  rw [hv0] at hb0 k1 k2
  have HT := Lib.hid h
  have HL := Lib.hid hl
  have hCk := fewCheck_any K L a len cap C v0 (h.below hb0)
  obtain ⟨F, hF⟩ : ∃ F, fewE K L C = F := ⟨_, rfl⟩
  rw [hF] at hCk
  have HCk := Lib.hid hCk
  obtain ⟨E, hE⟩ : ∃ E, putE K L C key n = E := ⟨_, rfl⟩
  rw [hE]
  have HE := Lib.hid hE
  have HF := Lib.hid hF
  have HV := Lib.hid hv0
  have HB0 := Lib.hid hb0
  have K1 := Lib.hid k1
  have K2 := Lib.hid k2
  obtain ⟨Z, hZ⟩ : ∃ Z, putZ K C key n = Z := ⟨_, rfl⟩
  obtain ⟨D, hD⟩ : ∃ D, putC K C key n = D := ⟨_, rfl⟩
  rw [hZ, hD]
  have HZ := Lib.hid hZ
  have HD := Lib.hid hD
  clear h hl hb0 k1 k2 hv0 hCk hE hF hZ hD
  unfold fewV at HCk ⊢
  go_enter Tryz.func5, Tryz.ntmps5
  go_upto_region 1 with fail
  rw [HV.out]
  obtain ⟨X, hX⟩ : ∃ X, w.heap.size = X := ⟨_, rfl⟩
  have HX := Lib.hid hX
  rw [hX] at K1 K2 ⊢
  clear HV hX
  obtain ⟨⟨a0, a1, a2⟩, _⟩ := three_all K1.out
  go_wp2_with fail
  clear a0 a1 a2
  refine HCk.out.mono ?_
  rintro e w1 ⟨rfl, hb1⟩
  have HB1 := Lib.hid (below_on HB0.out hb1)
  replace K1 := Lib.hid (kept_blk hb1 K1.out)
  replace K2 := Lib.hid (kept_blk hb1 K2.out)
  clear hb1 HB0 HCk
  by_cases hF0 : F = 0
  · subst hF0
    by_cases hn : n < 1 ∨ 1000000000000 < n
    · obtain rfl : E = 1 := by rw [← HE.out]; unfold putE; rw [if_neg (by rw [HF.out]; decide), if_pos hn]
      have CI := Lib.hid (fun W => isWeight_any n W false (by constructor <;> intro h; cases h; omega))
      clear hn
      go_wp2_with fail
      refine (CI.out _).mono ?_
      rintro e w2 ⟨rfl, hw2⟩
      rw [hw2]
      clear hw2 CI
      obtain ⟨⟨x0, x1, x2⟩, f0, f1, f2⟩ := three_all K2.out
      have Z9 := three_all (three_set (x' := 0) (y' := 0) (v' := .slice none 0 0) K2.out)
      have HBZ := Lib.hid (three_below HB1.out (by rw [HX.out]; exact Nat.le_succ _) (b := X + 1) 0 0 (.slice none 0 0))
      have HOZ : Hid (Own (((w1.setCell ⟨X + 1, 0, none⟩ (.int .i64 0)).setCell ⟨X + 1, 1, none⟩ (.int .i64 0)).setCell ⟨X + 1, 2, none⟩ (.slice none 0 0)) w.heap.size 37 2 (.slice none 0 0) ([].map iiC)) := Lib.hid (Own.nil _ _ _ _)
      go_wp2_with fail
      obtain ⟨⟨z0, z1, z2⟩, _⟩ := Z9
      generalize (((w1.setCell { block := X + 1, off := 0 } (Value.int IntKind.i64 0)).setCell { block := X + 1, off := 1 } (Value.int IntKind.i64 0)).setCell { block := X + 1, off := 2 } (Value.slice none 0 0)) = w9 at *
      clear x0 x1 x2 f0 f1 f2
      try simp only [Exit.inBlock, Exit.then]
      refine bodyPost_ret (by simp [results, Tryz.results5, go_sem, z0, z1, z2, Result.andThen]; try rfl) rfl ?_
      exact ⟨0, 0, [], _, rfl, Or.inr ⟨by decide, rfl, rfl, rfl⟩, HOZ.out, HBZ.out⟩
    · have hG := fewE_zero.1 HF.out
      obtain ⟨k, rfl⟩ : ∃ k : Nat, K = (k : Int) := ⟨K.toNat, by have := hG.k1; omega⟩
      have hk16 : k ≤ 16 := by have := hG.k2; omega
      have hlen : len ≤ 16 := by have := hG.len; rw [HL.out] at this; omega
      have hE2 : E = setE (L + Z) D := by rw [← HE.out]; unfold putE; rw [if_neg (by rw [HF.out]; decide), if_neg hn, HZ.out, HD.out]
      have CI := Lib.hid (fun W => isWeight_any n W true (by constructor <;> intro h; omega; rfl))
      have hn1 : 1 ≤ n := by omega
      have hn2 : n ≤ 1000000000000 := by omega
      have CC := Lib.hid (clone_counters a len cap C w1 (HT.out.below HB1.out) (by omega))
      have hord := hG.ord
      have hnum := hG.num
      have hl1 := hG.l1
      have hl2 := hG.l2
      obtain ⟨A, hA⟩ : ∃ A, addC C (key, n) = A := ⟨_, rfl⟩
      have HAb := Lib.hid (addC_bd (c := (key, n)) hnum hn1 hn2 (by decide))
      have HAl := Lib.hid (addC_len C (key, n))
      rw [hA] at HAb HAl
      have HZ2 : Hid (exC A k = Z) := Lib.hid (by rw [← hA, ← HZ.out]; rfl)
      have HD2 : Hid (lowC Z A = D) := Lib.hid (by rw [← hA, ← HD.out, ← HZ.out]; rfl)
      have HAdd := Lib.hid (fun (W : World) (base : Nat) (v : Value) (hO : Own W base 37 2 v (C.map iiC)) (hb : base ≤ W.heap.size) => fewAdd_any (key := key) (n := n) hO hord (by rw [HL.out]; omega) (fun d hd => by have := hnum d hd; omega) (by omega) hn2 hb)
      rw [hA] at HAdd
      have HS := Lib.hid (fun (W : World) (q : Option Addr) (m c : Nat) (hT : Tab W q m c 2 (A.map iiC)) (hm : A.length = m) => settle_any k L q m c A W hT hk16 (by have := HAl.out; rw [HL.out] at this; omega) hl1 (by omega) (fun d hd => by have := HAb.out d hd; omega))
      rw [HZ2.out, HD2.out, ← hE2] at HS
      have HX1 := Lib.hid (show X + 1 < w1.heap.size from (Array.getElem?_eq_some_iff.1 K2.out).1)
      obtain ⟨nA, hnA⟩ : ∃ m, A.length = m := ⟨_, rfl⟩
      have HNA := Lib.hid hnA
      clear hn hG hE2 hord hnum hA hnA
      obtain ⟨⟨a0, a1, a2⟩, _⟩ := three_all K1.out
      go_wp2_with fail
      refine (CI.out _).mono ?_
      rintro e w2 ⟨rfl, hw2⟩
      rw [hw2]
      clear hw2 CI
      go_wp2_with fail
      clear a0 a1 a2
      refine CC.out.mono ?_
      rintro e w3 ⟨v, rfl, hO3, hb3⟩
      have HB3 := Lib.hid (below_on HB1.out hb3)
      have HAd := Lib.hid (HAdd.out w3 _ v hO3 hb3.size)
      replace K1 := Lib.hid (kept_blk hb3 K1.out)
      replace K2 := Lib.hid (kept_blk hb3 K2.out)
      have HS3 := Lib.hid hb3.size
      clear hb3 hO3 CC HAdd
      go_wp2_with fail
      refine HAd.out.mono ?_
      rintro e w4 ⟨v4, rfl, hO4, hb4⟩
      obtain ⟨a4, c4, rfl, hT4⟩ := own_ctrs hO4 HNA.out
      replace K1 := Lib.hid (below_blk hb4 K1.out (by have := HX1.out; omega))
      replace K2 := Lib.hid (below_blk hb4 K2.out HX1.out)
      have HB4 := Lib.hid (HB3.out.trans (hb4.mono (HB1.out.size)))
      have HSe := Lib.hid (HS.out w4 a4 nA c4 hT4 HNA.out)
      have HS4 := Lib.hid hb4.size
      clear hO4 hb4 hT4 HAd HS
      obtain ⟨⟨a0, a1, a2⟩, _⟩ := three_all K1.out
      go_wp2_with fail
      clear a0 a1 a2
      refine HSe.out.mono ?_
      rintro e w5 ⟨Kr, Lr, Cr, v5, rfl, hOut, hO5, hb5⟩
      obtain ⟨nC, hnC⟩ : ∃ m, Cr.length = m := ⟨_, rfl⟩
      obtain ⟨a5, c5, rfl, _⟩ := own_ctrs hO5 hnC
      replace K2 := Lib.hid (kept_blk hb5 K2.out)
      have HOut := Lib.hid hOut
      have HXb : X + 1 < w4.heap.size := by have := HX1.out; have := HS3.out; have := HS4.out; omega
      have HB5 := Lib.hid (below_on HB4.out hb5)
      have HBZ := Lib.hid (three_below HB5.out (by rw [HX.out]; exact Nat.le_succ _) (b := X + 1) Kr Lr (.slice a5 nC c5))
      have HOZ := Lib.hid ((three_own hO5 HXb Kr Lr (.slice a5 nC c5)).base_le (B := w.heap.size) (by have := HB4.out.size; omega))
      obtain ⟨⟨x0, x1, x2⟩, f0, f1, f2⟩ := three_all K2.out
      have Z9 := three_all (three_set (x' := Kr) (y' := Lr) (v' := .slice a5 nC c5) K2.out)
      clear hOut hO5 hb5 HSe hnC HXb
      go_wp2_with fail
      obtain ⟨⟨z0, z1, z2⟩, _⟩ := Z9
      generalize (((w5.setCell { block := X + 1, off := 0 } (Value.int IntKind.i64 Kr)).setCell { block := X + 1, off := 1 } (Value.int IntKind.i64 Lr)).setCell { block := X + 1, off := 2 } (Value.slice a5 nC c5)) = w9 at *
      clear x0 x1 x2 f0 f1 f2
      try simp only [Exit.inBlock, Exit.then]
      refine bodyPost_ret (by simp [results, Tryz.results5, go_sem, z0, z1, z2, Result.andThen]; try rfl) rfl ?_
      exact ⟨Kr, Lr, Cr, _, rfl, HOut.out, HOZ.out, HBZ.out⟩
  · obtain rfl : E = F := by rw [← HE.out]; unfold putE; rw [if_pos (by rw [HF.out]; exact hF0), HF.out]
    have t : (E != 0) = true := by simpa using hF0
    obtain ⟨⟨x0, x1, x2⟩, f0, f1, f2⟩ := three_all K2.out
    have Z9 := three_all (three_set (x' := 0) (y' := 0) (v' := .slice none 0 0) K2.out)
    have HBZ := Lib.hid (three_below HB1.out (by rw [HX.out]; exact Nat.le_succ _) (b := X + 1) 0 0 (.slice none 0 0))
    have HOZ : Hid (Own (((w1.setCell ⟨X + 1, 0, none⟩ (.int .i64 0)).setCell ⟨X + 1, 1, none⟩ (.int .i64 0)).setCell ⟨X + 1, 2, none⟩ (.slice none 0 0)) w.heap.size 37 2 (.slice none 0 0) ([].map iiC)) := Lib.hid (Own.nil _ _ _ _)
    have HF0 := Lib.hid hF0
    clear hF0
    go_wp2_with fail
    obtain ⟨⟨z0, z1, z2⟩, _⟩ := Z9
    generalize (((w1.setCell { block := X + 1, off := 0 } (Value.int IntKind.i64 0)).setCell { block := X + 1, off := 1 } (Value.int IntKind.i64 0)).setCell { block := X + 1, off := 2 } (Value.slice none 0 0)) = w9 at *
    clear x0 x1 x2 f0 f1 f2
    try simp only [Exit.inBlock, Exit.then]
    refine bodyPost_ret (by simp [results, Tryz.results5, go_sem, z0, z1, z2, Result.andThen]; try rfl) rfl ?_
    exact ⟨0, 0, [], _, rfl, Or.inr ⟨HF0.out, rfl, rfl, rfl⟩, HOZ.out, HBZ.out⟩
end Go.Proofs.YtffgoekdjcempaaGreat
