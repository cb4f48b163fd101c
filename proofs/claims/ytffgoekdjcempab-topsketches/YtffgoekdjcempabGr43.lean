/- Texts joined: FewPut, FewVar, FewJoinP, TopFive. -/
import Derived.Test.YtffgoekdjcempabGr33
import Derived.Test.YtffgoekdjcempabFewAdd
import Derived.Test.YtffgoekdjcempabFewSettle
import Derived.Test.YtffgoekdjcempabCloneCounters
import Derived.Test.YtffgoekdjcempabTabAdds
import Derived.Test.YtffgoekdjcempabGr24
import Derived.Test.YtffgoekdjcempabBloomSum
import Derived.Test.YtffgoekdjcempabBloomCheck
import Derived.Test.YtffgoekdjcempabRegsBig
/- The contract of the program's few.Put, whatever is handed in. -/
namespace Go.Proofs.Ytffgoekdjcempab
open Go.ChangeShapes Go.WideShapes Go.ChangeAt Go.RowKit
open Few

namespace Few
theorem addC_bd {C : List (Int × Int)} {c : Int × Int} {M : Int} (hC : ∀ d ∈ C, 1 ≤ d.2 ∧ d.2 ≤ M) (h1 : 1 ≤ c.2) (h2 : c.2 ≤ 1000000000000) (hM : 1000000000000 ≤ M) : ∀ d ∈ addC C c, 1 ≤ d.2 ∧ d.2 ≤ M + 1000000000000 := by
  intro d hd
  rcases addC_mem hd with h | h | ⟨e, he, _, h⟩
  · have := hC d h; omega
  · rw [h]; omega
  · have := hC e he; rw [h]; simp only; omega
/-- the excess of what is there with one more, and what is left of it -/
def putZ (K : Int) (C : List (Int × Int)) (key n : Int) : Int := exC (addC C (key, n)) K.toNat
def putC (K : Int) (C : List (Int × Int)) (key n : Int) : List (Int × Int) := lowC (putZ K C key n) (addC C (key, n))
def putE (K L : Int) (C : List (Int × Int)) (key n : Int) : Int := if fewE K L C ≠ 0 then fewE K L C else if n < 1 ∨ 1000000000000 < n then 1 else setE (L + putZ K C key n) (putC K C key n)
theorem below_blk {B : Nat} {w1 w2 : World} {b : Nat} {o : Obj} (hb : Below B w1 w2) (h : w1.heap[b]? = some o) (hB : b < B) : w2.heap[b]? = some o := (hb.block b hB).trans h
end Few

set_option maxRecDepth 100000 in
set_option maxHeartbeats 4000000 in
theorem fewPut_any (K L : Int) (a : Option Addr) (len cap : Nat) (C : List (Int × Int)) (key n : Int) (w : World) (h : Tab w a len cap 2 (C.map iiC)) :
    Calls Try.prog 5 #[fewV K L a len cap, .int .i64 key, .int .i64 n] w fun e w' => ∃ (Kr Lr : Int) (Cr : List (Int × Int)) (v : Value), e = .returned (.tuple #[.agg #[.int .i64 Kr, .int .i64 Lr, v], .int .i64 (putE K L C key n)]) ∧ Out (putE K L C key n) K (L + putZ K C key n) (putC K C key n) Kr Lr Cr ∧ Own w' w.heap.size 36 2 v (Cr.map iiC) ∧ Below w.heap.size w w' := by
  have hl := h.hlen
  rw [List.length_map] at hl
  have hb0 : Below w.heap.size w ((w.alloc (.cells #[.int .i64 K, .int .i64 L, .slice a len cap] 30)).alloc (.cells #[.int .i64 0, .int .i64 0, .slice none 0 0] 30)) := ((Below.refl _ _).alloc (Nat.le_refl _) _).alloc (by simp) _
  have k1 : ((w.alloc (.cells #[.int .i64 K, .int .i64 L, .slice a len cap] 30)).alloc (.cells #[.int .i64 0, .int .i64 0, .slice none 0 0] 30)).heap[w.heap.size]? = some (.cells #[.int .i64 K, .int .i64 L, .slice a len cap] 30 (0, 0)) := by
    rw [Below.heap_alloc _ _ _ (by simp)]
    exact (MapKept.heap_alloc w _).1
  have k2 : ((w.alloc (.cells #[.int .i64 K, .int .i64 L, .slice a len cap] 30)).alloc (.cells #[.int .i64 0, .int .i64 0, .slice none 0 0] 30)).heap[w.heap.size + 1]? = some (.cells #[.int .i64 0, .int .i64 0, .slice none 0 0] 30 (0, 0)) := by
    have := (MapKept.heap_alloc (w.alloc (.cells #[.int .i64 K, .int .i64 L, .slice a len cap] 30)) (.cells #[.int .i64 0, .int .i64 0, .slice none 0 0] 30)).1
    simpa using this
  obtain ⟨v0, hv0⟩ : ∃ v, (w.alloc (.cells #[.int .i64 K, .int .i64 L, .slice a len cap] 30)).alloc (.cells #[.int .i64 0, .int .i64 0, .slice none 0 0] 30) = v := ⟨_, rfl⟩
  rw [hv0] at hb0 k1 k2
  have HT := Lib.hid h
  have HL := Lib.hid hl
  have hCk := fewCheck_any K L a len cap C v0 (h.below hb0)
  obtain ⟨F, hF⟩ : ∃ F, fewE K L C = F := ⟨_, rfl⟩
  rw [hF] at hCk
  have HCk := Lib.hid hCk
  obtain ⟨E, hE⟩ : ∃ E, putE K L C key n = E := ⟨_, rfl⟩
  rw [hE]
  have HE := Lib.hid hE
  have HF := Lib.hid hF
  have HV := Lib.hid hv0
  have HB0 := Lib.hid hb0
  have K1 := Lib.hid k1
  have K2 := Lib.hid k2
  obtain ⟨Z, hZ⟩ : ∃ Z, putZ K C key n = Z := ⟨_, rfl⟩
  obtain ⟨D, hD⟩ : ∃ D, putC K C key n = D := ⟨_, rfl⟩
  rw [hZ, hD]
  have HZ := Lib.hid hZ
  have HD := Lib.hid hD
  clear h hl hb0 k1 k2 hv0 hCk hE hF hZ hD
  unfold fewV at HCk ⊢
  go_enter Try.func5, Try.ntmps5
  go_upto_region 1 with fail
  rw [HV.out]
  obtain ⟨X, hX⟩ : ∃ X, w.heap.size = X := ⟨_, rfl⟩
  have HX := Lib.hid hX
  rw [hX] at K1 K2 ⊢
  clear HV hX
  obtain ⟨⟨a0, a1, a2⟩, _⟩ := three_all K1.out
  go_wp2_with fail
  clear a0 a1 a2
  refine HCk.out.mono ?_
  rintro e w1 ⟨rfl, hb1⟩
  have HB1 := Lib.hid (below_on HB0.out hb1)
  replace K1 := Lib.hid (kept_blk hb1 K1.out)
  replace K2 := Lib.hid (kept_blk hb1 K2.out)
  clear hb1 HB0 HCk
  by_cases hF0 : F = 0
  · subst hF0
    by_cases hn : n < 1 ∨ 1000000000000 < n
    · obtain rfl : E = 1 := by rw [← HE.out]; unfold putE; rw [if_neg (by rw [HF.out]; decide), if_pos hn]
      have CI := Lib.hid (fun W => isWeight_any n W false (by constructor <;> intro h; cases h; omega))
      clear hn
      go_wp2_with fail
      refine (CI.out _).mono ?_
      rintro e w2 ⟨rfl, hw2⟩
      rw [hw2]
      clear hw2 CI
      obtain ⟨⟨x0, x1, x2⟩, f0, f1, f2⟩ := three_all K2.out
      have Z9 := three_all (three_set (x' := 0) (y' := 0) (v' := .slice none 0 0) K2.out)
      have HBZ := Lib.hid (three_below HB1.out (by rw [HX.out]; exact Nat.le_succ _) (b := X + 1) 0 0 (.slice none 0 0))
      have HOZ : Hid (Own (((w1.setCell ⟨X + 1, 0, none⟩ (.int .i64 0)).setCell ⟨X + 1, 1, none⟩ (.int .i64 0)).setCell ⟨X + 1, 2, none⟩ (.slice none 0 0)) w.heap.size 36 2 (.slice none 0 0) ([].map iiC)) := Lib.hid (Own.nil _ _ _ _)
      go_wp2_with fail
      obtain ⟨⟨z0, z1, z2⟩, _⟩ := Z9
      generalize (((w1.setCell { block := X + 1, off := 0 } (Value.int IntKind.i64 0)).setCell { block := X + 1, off := 1 } (Value.int IntKind.i64 0)).setCell { block := X + 1, off := 2 } (Value.slice none 0 0)) = w9 at *
      clear x0 x1 x2 f0 f1 f2
      try simp only [Exit.inBlock, Exit.then]
      refine bodyPost_ret (by simp [results, Try.results5, go_sem, z0, z1, z2, Result.andThen]; try rfl) rfl ?_
      exact ⟨0, 0, [], _, rfl, Or.inr ⟨by decide, rfl, rfl, rfl⟩, HOZ.out, HBZ.out⟩
    · have hG := fewE_zero.1 HF.out
      obtain ⟨k, rfl⟩ : ∃ k : Nat, K = (k : Int) := ⟨K.toNat, by have := hG.k1; omega⟩
      have hk16 : k ≤ 16 := by have := hG.k2; omega
      have hlen : len ≤ 16 := by have := hG.len; rw [HL.out] at this; omega
      have hE2 : E = setE (L + Z) D := by rw [← HE.out]; unfold putE; rw [if_neg (by rw [HF.out]; decide), if_neg hn, HZ.out, HD.out]
      have CI := Lib.hid (fun W => isWeight_any n W true (by constructor <;> intro h; omega; rfl))
      have hn1 : 1 ≤ n := by omega
      have hn2 : n ≤ 1000000000000 := by omega
      have CC := Lib.hid (clone_counters a len cap C w1 (HT.out.below HB1.out) (by omega))
      have hord := hG.ord
      have hnum := hG.num
      have hl1 := hG.l1
      have hl2 := hG.l2
      obtain ⟨A, hA⟩ : ∃ A, addC C (key, n) = A := ⟨_, rfl⟩
      have HAb := Lib.hid (addC_bd (c := (key, n)) hnum hn1 hn2 (by decide))
      have HAl := Lib.hid (addC_len C (key, n))
      rw [hA] at HAb HAl
      have HZ2 : Hid (exC A k = Z) := Lib.hid (by rw [← hA, ← HZ.out]; rfl)
      have HD2 : Hid (lowC Z A = D) := Lib.hid (by rw [← hA, ← HD.out, ← HZ.out]; rfl)
      have HAdd := Lib.hid (fun (W : World) (base : Nat) (v : Value) (hO : Own W base 36 2 v (C.map iiC)) (hb : base ≤ W.heap.size) => fewAdd_any (key := key) (n := n) hO hord (by rw [HL.out]; omega) (fun d hd => by have := hnum d hd; omega) (by omega) hn2 hb)
      rw [hA] at HAdd
      have HS := Lib.hid (fun (W : World) (q : Option Addr) (m c : Nat) (hT : Tab W q m c 2 (A.map iiC)) (hm : A.length = m) => settle_any k L q m c A W hT hk16 (by have := HAl.out; rw [HL.out] at this; omega) hl1 (by omega) (fun d hd => by have := HAb.out d hd; omega))
      rw [HZ2.out, HD2.out, ← hE2] at HS
      have HX1 := Lib.hid (show X + 1 < w1.heap.size from (Array.getElem?_eq_some_iff.1 K2.out).1)
      obtain ⟨nA, hnA⟩ : ∃ m, A.length = m := ⟨_, rfl⟩
      have HNA := Lib.hid hnA
      clear hn hG hE2 hord hnum hA hnA
      obtain ⟨⟨a0, a1, a2⟩, _⟩ := three_all K1.out
      go_wp2_with fail
      refine (CI.out _).mono ?_
      rintro e w2 ⟨rfl, hw2⟩
      rw [hw2]
      clear hw2 CI
      go_wp2_with fail
      clear a0 a1 a2
      refine CC.out.mono ?_
      rintro e w3 ⟨v, rfl, hO3, hb3⟩
      have HB3 := Lib.hid (below_on HB1.out hb3)
      have HAd := Lib.hid (HAdd.out w3 _ v hO3 hb3.size)
      replace K1 := Lib.hid (kept_blk hb3 K1.out)
      replace K2 := Lib.hid (kept_blk hb3 K2.out)
      have HS3 := Lib.hid hb3.size
      clear hb3 hO3 CC HAdd
      go_wp2_with fail
      refine HAd.out.mono ?_
      rintro e w4 ⟨v4, rfl, hO4, hb4⟩
      obtain ⟨a4, c4, rfl, hT4⟩ := own_ctrs hO4 HNA.out
      replace K1 := Lib.hid (below_blk hb4 K1.out (by have := HX1.out; omega))
      replace K2 := Lib.hid (below_blk hb4 K2.out HX1.out)
      have HB4 := Lib.hid (HB3.out.trans (hb4.mono (HB1.out.size)))
      have HSe := Lib.hid (HS.out w4 a4 nA c4 hT4 HNA.out)
      have HS4 := Lib.hid hb4.size
      clear hO4 hb4 hT4 HAd HS
      obtain ⟨⟨a0, a1, a2⟩, _⟩ := three_all K1.out
      go_wp2_with fail
      clear a0 a1 a2
      refine HSe.out.mono ?_
      rintro e w5 ⟨Kr, Lr, Cr, v5, rfl, hOut, hO5, hb5⟩
      obtain ⟨nC, hnC⟩ : ∃ m, Cr.length = m := ⟨_, rfl⟩
      obtain ⟨a5, c5, rfl, _⟩ := own_ctrs hO5 hnC
      replace K2 := Lib.hid (kept_blk hb5 K2.out)
      have HOut := Lib.hid hOut
      have HXb : X + 1 < w4.heap.size := by have := HX1.out; have := HS3.out; have := HS4.out; omega
      have HB5 := Lib.hid (below_on HB4.out hb5)
      have HBZ := Lib.hid (three_below HB5.out (by rw [HX.out]; exact Nat.le_succ _) (b := X + 1) Kr Lr (.slice a5 nC c5))
      have HOZ := Lib.hid ((three_own hO5 HXb Kr Lr (.slice a5 nC c5)).base_le (B := w.heap.size) (by have := HB4.out.size; omega))
      obtain ⟨⟨x0, x1, x2⟩, f0, f1, f2⟩ := three_all K2.out
      have Z9 := three_all (three_set (x' := Kr) (y' := Lr) (v' := .slice a5 nC c5) K2.out)
      clear hOut hO5 hb5 HSe hnC HXb
      go_wp2_with fail
      obtain ⟨⟨z0, z1, z2⟩, _⟩ := Z9
      generalize (((w5.setCell { block := X + 1, off := 0 } (Value.int IntKind.i64 Kr)).setCell { block := X + 1, off := 1 } (Value.int IntKind.i64 Lr)).setCell { block := X + 1, off := 2 } (Value.slice a5 nC c5)) = w9 at *
      clear x0 x1 x2 f0 f1 f2
      try simp only [Exit.inBlock, Exit.then]
      refine bodyPost_ret (by simp [results, Try.results5, go_sem, z0, z1, z2, Result.andThen]; try rfl) rfl ?_
      exact ⟨Kr, Lr, Cr, _, rfl, HOut.out, HOZ.out, HBZ.out⟩
  · obtain rfl : E = F := by rw [← HE.out]; unfold putE; rw [if_pos (by rw [HF.out]; exact hF0), HF.out]
    have t : (E != 0) = true := by simpa using hF0
    obtain ⟨⟨x0, x1, x2⟩, f0, f1, f2⟩ := three_all K2.out
    have Z9 := three_all (three_set (x' := 0) (y' := 0) (v' := .slice none 0 0) K2.out)
    have HBZ := Lib.hid (three_below HB1.out (by rw [HX.out]; exact Nat.le_succ _) (b := X + 1) 0 0 (.slice none 0 0))
    have HOZ : Hid (Own (((w1.setCell ⟨X + 1, 0, none⟩ (.int .i64 0)).setCell ⟨X + 1, 1, none⟩ (.int .i64 0)).setCell ⟨X + 1, 2, none⟩ (.slice none 0 0)) w.heap.size 36 2 (.slice none 0 0) ([].map iiC)) := Lib.hid (Own.nil _ _ _ _)
    have HF0 := Lib.hid hF0
    clear hF0
    go_wp2_with fail
    obtain ⟨⟨z0, z1, z2⟩, _⟩ := Z9
    generalize (((w1.setCell { block := X + 1, off := 0 } (Value.int IntKind.i64 0)).setCell { block := X + 1, off := 1 } (Value.int IntKind.i64 0)).setCell { block := X + 1, off := 2 } (Value.slice none 0 0)) = w9 at *
    clear x0 x1 x2 f0 f1 f2
    try simp only [Exit.inBlock, Exit.then]
    refine bodyPost_ret (by simp [results, Try.results5, go_sem, z0, z1, z2, Result.andThen]; try rfl) rfl ?_
    exact ⟨0, 0, [], _, rfl, Or.inr ⟨HF0.out, rfl, rfl, rfl⟩, HOZ.out, HBZ.out⟩
end Go.Proofs.Ytffgoekdjcempab

/- A sketch of what comes often in a variable; what is put to a sketch of all that came. -/
namespace Go.Proofs.Ytffgoekdjcempab
open Go.ChangeShapes Go.WideShapes Go.ChangeAt Go.RowKit
open Few

namespace Few
/-- a sketch in a variable that is written no more -/
def FV (w : World) (X : Nat) (K L : Int) (q : Option Addr) (n c : Nat) (C : List (Int × Int)) : Prop := w.heap[X]? = some (.cells #[.int .i64 K, .int .i64 L, .slice q n c] 30 (0, 0)) ∧ Tab w q n c 2 (C.map iiC)
theorem FV.below {w w' : World} {X : Nat} {K L : Int} {q : Option Addr} {n c : Nat} {C : List (Int × Int)} (h : FV w X K L q n c C) (hb : Below w.heap.size w w') : FV w' X K L q n c C := ⟨kept_blk hb h.1, h.2.below hb⟩
theorem FV.new {w : World} {K L : Int} {q : Option Addr} {n c : Nat} {C : List (Int × Int)} (h : Tab w q n c 2 (C.map iiC)) : FV (w.alloc (.cells #[.int .i64 K, .int .i64 L, .slice q n c] 30)) w.heap.size K L q n c C ∧ Below w.heap.size w (w.alloc (.cells #[.int .i64 K, .int .i64 L, .slice q n c] 30)) :=
  ⟨⟨(MapKept.heap_alloc w _).1, h.below ((Below.refl _ _).alloc (Nat.le_refl _) _)⟩, (Below.refl _ _).alloc (Nat.le_refl _) _⟩
theorem FV.cells {w : World} {X : Nat} {K L : Int} {q : Option Addr} {n c : Nat} {C : List (Int × Int)} (h : FV w X K L q n c C) : w.cell? ⟨X, 0, none⟩ = some (.int .i64 K) ∧ w.cell? ⟨X, 1, none⟩ = some (.int .i64 L) ∧ w.cell? ⟨X, 2, none⟩ = some (.slice q n c) := three_cells h.1
theorem setE_zero {L : Int} {C : List (Int × Int)} : setE L C = 0 ↔ L ≤ 1000000000000 ∧ ∀ c ∈ C, c.2 ≤ 1000000000000 := by
  unfold setE
  split
  · constructor
    · intro h; cases h
    · rintro ⟨h, _⟩; omega
  split
  · rename_i h1 h2
    constructor
    · intro h; cases h
    · rintro ⟨_, h⟩
      obtain ⟨c, hc, hb⟩ := List.any_eq_true.1 h2
      have := h c hc
      unfold bigC at hb
      rw [decide_eq_true_iff] at hb
      omega
  · rename_i h1 h2
    constructor
    · intro _
      refine ⟨by omega, fun c hc => ?_⟩
      rcases Int.lt_or_le 1000000000000 c.2 with h | h
      · exact absurd (List.any_eq_true.2 ⟨c, hc, by unfold bigC; exact decide_eq_true h⟩) h2
      · exact h
    · intro _; rfl
theorem setE_good {K L : Int} {C : List (Int × Int)} (h : Few.Good K L C) : setE L C = 0 := setE_zero.2 ⟨h.l2, fun c hc => (h.num c hc).2⟩
theorem near_putE {K L x n : Int} {A C : List (Int × Int)} (h : Near K A L C) (hn : 1 ≤ n) (hA : tot A + n ≤ 1000000000000) (hn2 : n ≤ 1000000000000) : putE K L C x n = 0 ∧ Near K (A ++ [(x, n)]) (L + putZ K C x n) (putC K C x n) := by
  have g := near_put (x := x) h hn hA
  refine ⟨?_, g⟩
  unfold putE
  rw [if_neg (by rw [fewE_zero.2 h.good]; decide), if_neg (by omega)]
  exact setE_good g.good
/-- what is put at once -/
theorem put_at {K L : Int} {C : List (Int × Int)} {i : Nat} {key m n : Int} (hG : Few.Good K L C) (hi : C[i]? = some (key, m)) (h1 : 1 ≤ n) (h2 : n ≤ 1000000000000) :
    putZ K C key n = 0 ∧ putC K C key n = C.set i (key, m + n) ∧ (m + n ≤ 1000000000000 → putE K L C key n = 0 ∧ Few.Good K L (C.set i (key, m + n))) ∧ (1000000000000 < m + n → putE K L C key n = 2) := by
  have hadd : addC C (key, n) = C.set i (key, m + n) := addC_at hi (fun j d hj hd => at_lt hG.ord hd hi hj)
  have hm := hG.num _ (List.mem_of_getElem? hi)
  simp only at hm
  have hil := (List.getElem?_eq_some_iff.1 hi).1
  have hnum : ∀ c ∈ C.set i (key, m + n), 1 ≤ c.2 := fun c hc => by
    rcases List.mem_or_eq_of_mem_set hc with hc | rfl
    · exact (hG.num c hc).1
    · simp only; omega
  have hz : putZ K C key n = 0 := by
    unfold putZ
    rw [hadd]
    exact (exC_all hnum).2.2.2 (by rw [List.length_set]; have := hG.len; have := hG.k1; omega)
  have hc : putC K C key n = C.set i (key, m + n) := by
    unfold putC
    rw [hz, hadd, lowC_zero hnum]
  have hE : putE K L C key n = setE L (C.set i (key, m + n)) := by
    unfold putE
    rw [if_neg (by rw [fewE_zero.2 hG]; decide), if_neg (by omega), hz, hc, Int.add_zero]
  refine ⟨hz, hc, fun hle => ?_, fun hgt => ?_⟩
  · have hg : Few.Good K L (C.set i (key, m + n)) := by
      refine ⟨hG.k1, hG.k2, hG.l1, hG.l2, by rw [List.length_set]; exact hG.len, fun c hc => ⟨hnum c hc, ?_⟩, ?_⟩
      · rcases List.mem_or_eq_of_mem_set hc with hc | rfl
        · exact (hG.num c hc).2
        · exact hle
      · rw [← hadd]; exact addC_ord hG.ord
    exact ⟨by rw [hE]; exact setE_good hg, hg⟩
  · rw [hE]
    unfold setE
    rw [if_neg (by have := hG.l2; omega), if_pos]
    exact List.any_eq_true.2 ⟨(key, m + n), List.mem_of_getElem? (i := i) (by rw [List.getElem?_set_self hil]), by unfold bigC; exact decide_eq_true hgt⟩
end Few
end Go.Proofs.Ytffgoekdjcempab

/- The contract of the program's few.Join, whatever is handed in. -/
namespace Go.Proofs.Ytffgoekdjcempab
open Go.ChangeShapes Go.WideShapes Go.ChangeAt Go.RowKit
open Few

namespace Few
def joinZ (K : Int) (C D : List (Int × Int)) : Int := exC (addAll C D) K.toNat
def joinC (K : Int) (C D : List (Int × Int)) : List (Int × Int) := lowC (joinZ K C D) (addAll C D)
def joinE (K L : Int) (C : List (Int × Int)) (K2 L2 : Int) (D : List (Int × Int)) : Int := if fewE K L C ≠ 0 then fewE K L C else if fewE K2 L2 D ≠ 0 then fewE K2 L2 D else if K ≠ K2 then 7 else setE (L + L2 + joinZ K C D) (joinC K C D)
theorem addAll_bd {C : List (Int × Int)} (hC : ∀ d ∈ C, 1 ≤ d.2 ∧ d.2 ≤ 1000000000000) : ∀ {D : List (Int × Int)} (k : Nat), (∀ d ∈ D, 1 ≤ d.2 ∧ d.2 ≤ 1000000000000) → k ≤ D.length → ∀ d ∈ addAll C (D.take k), 1 ≤ d.2 ∧ d.2 ≤ 1000000000000 + k * 1000000000000
  | D, 0, _, _, d, hd => by
    have := hC d (by simpa [addAll] using hd)
    simp; exact this
  | D, k + 1, hD, hk, d, hd => by
    obtain ⟨c, hc⟩ : ∃ c, D[k]? = some c := ⟨_, List.getElem?_eq_getElem (by omega)⟩
    rw [addAll_snoc hc] at hd
    have ih := addAll_bd hC k hD (by omega)
    have h2 := hD c (List.mem_of_getElem? hc)
    have := addC_bd (M := 1000000000000 + k * 1000000000000) ih h2.1 h2.2 (by omega) d hd
    refine ⟨this.1, ?_⟩
    have h3 := this.2
    rw [Int.natCast_add, Int.add_mul]
    omega
/-- the two sketches, the one to come -/
structure Box3 (w : World) (X : Nat) (K L : Int) (q : Option Addr) (n c : Nat) (K2 L2 : Int) (q2 : Option Addr) (n2 c2 : Nat) : Prop where
  k1 : w.heap[X]? = some (.cells #[.int .i64 K, .int .i64 L, .slice q n c] 30 (0, 0))
  k2 : w.heap[X + 1]? = some (.cells #[.int .i64 K2, .int .i64 L2, .slice q2 n2 c2] 30 (0, 0))
  k3 : w.heap[X + 2]? = some (.cells #[.int .i64 0, .int .i64 0, .slice none 0 0] 30 (0, 0))
theorem Box3.kept {w w' : World} {X : Nat} {K L : Int} {q : Option Addr} {n c : Nat} {K2 L2 : Int} {q2 : Option Addr} {n2 c2 : Nat} {B : Nat} (h : Box3 w X K L q n c K2 L2 q2 n2 c2) (hb : Below B w w') (hB : X + 2 < B) : Box3 w' X K L q n c K2 L2 q2 n2 c2 :=
  ⟨below_blk hb h.k1 (by omega), below_blk hb h.k2 (by omega), below_blk hb h.k3 hB⟩
theorem Box3.lt {w : World} {X : Nat} {K L : Int} {q : Option Addr} {n c : Nat} {K2 L2 : Int} {q2 : Option Addr} {n2 c2 : Nat} (h : Box3 w X K L q n c K2 L2 q2 n2 c2) : X + 2 < w.heap.size := (Array.getElem?_eq_some_iff.1 h.k3).1
end Few

set_option maxRecDepth 100000 in
set_option maxHeartbeats 6000000 in
theorem fewJoin_any (K L : Int) (a : Option Addr) (len cap : Nat) (C : List (Int × Int)) (K2 L2 : Int) (b : Option Addr) (lb cb : Nat) (D : List (Int × Int)) (w : World) (h : Tab w a len cap 2 (C.map iiC)) (g : Tab w b lb cb 2 (D.map iiC)) :
    Calls Try.prog 14 #[fewV K L a len cap, fewV K2 L2 b lb cb] w fun e w' => ∃ (Kr Lr : Int) (Cr : List (Int × Int)) (v : Value), e = .returned (.tuple #[.agg #[.int .i64 Kr, .int .i64 Lr, v], .int .i64 (joinE K L C K2 L2 D)]) ∧ Out (joinE K L C K2 L2 D) K (L + L2 + joinZ K C D) (joinC K C D) Kr Lr Cr ∧ Own w' w.heap.size 36 2 v (Cr.map iiC) ∧ Below w.heap.size w w' := by
  have hl := h.hlen
  rw [List.length_map] at hl
  have hg := g.hlen
  rw [List.length_map] at hg
  have hb0 : Below w.heap.size w (((w.alloc (.cells #[.int .i64 K, .int .i64 L, .slice a len cap] 30)).alloc (.cells #[.int .i64 K2, .int .i64 L2, .slice b lb cb] 30)).alloc (.cells #[.int .i64 0, .int .i64 0, .slice none 0 0] 30)) := (((Below.refl _ _).alloc (Nat.le_refl _) _).alloc (by simp) _).alloc (by simp; omega) _
  have kb : Box3 (((w.alloc (.cells #[.int .i64 K, .int .i64 L, .slice a len cap] 30)).alloc (.cells #[.int .i64 K2, .int .i64 L2, .slice b lb cb] 30)).alloc (.cells #[.int .i64 0, .int .i64 0, .slice none 0 0] 30)) w.heap.size K L a len cap K2 L2 b lb cb := by
    refine ⟨?_, ?_, ?_⟩
    · rw [Below.heap_alloc _ _ _ (by simp; omega), Below.heap_alloc _ _ _ (by simp)]
      exact (MapKept.heap_alloc w _).1
    · rw [Below.heap_alloc _ _ _ (by simp)]
      have := (MapKept.heap_alloc (w.alloc (.cells #[.int .i64 K, .int .i64 L, .slice a len cap] 30)) (.cells #[.int .i64 K2, .int .i64 L2, .slice b lb cb] 30)).1
      simpa using this
    · have := (MapKept.heap_alloc ((w.alloc (.cells #[.int .i64 K, .int .i64 L, .slice a len cap] 30)).alloc (.cells #[.int .i64 K2, .int .i64 L2, .slice b lb cb] 30)) (.cells #[.int .i64 0, .int .i64 0, .slice none 0 0] 30)).1
      simpa using this
  obtain ⟨v0, hv0⟩ : ∃ v, (((w.alloc (.cells #[.int .i64 K, .int .i64 L, .slice a len cap] 30)).alloc (.cells #[.int .i64 K2, .int .i64 L2, .slice b lb cb] 30)).alloc (.cells #[.int .i64 0, .int .i64 0, .slice none 0 0] 30)) = v := ⟨_, rfl⟩
  rw [hv0] at hb0 kb
  have HT := Lib.hid h
  have HG := Lib.hid g
  have HL := Lib.hid hl
  have HM := Lib.hid hg
  have c1 := fewCheck_any K L a len cap C v0 (h.below hb0)
  have c2 := fun (W : World) (hb : Below w.heap.size w W) => fewCheck_any K2 L2 b lb cb D W (g.below hb)
  obtain ⟨F, hF⟩ : ∃ F, fewE K L C = F := ⟨_, rfl⟩
  obtain ⟨G, hG⟩ : ∃ G, fewE K2 L2 D = G := ⟨_, rfl⟩
  rw [hF] at c1
  rw [hG] at c2
  unfold fewV at c1 c2 ⊢
  have HC1 := Lib.hid c1
  have HC2 := Lib.hid c2
  obtain ⟨E, hE⟩ : ∃ E, joinE K L C K2 L2 D = E := ⟨_, rfl⟩
  obtain ⟨Z, hZ⟩ : ∃ Z, joinZ K C D = Z := ⟨_, rfl⟩
  obtain ⟨J, hJ⟩ : ∃ J, joinC K C D = J := ⟨_, rfl⟩
  rw [hE, hZ, hJ]
  have HE := Lib.hid hE
  have HF := Lib.hid hF
  have HGG := Lib.hid hG
  have HZ := Lib.hid hZ
  have HJ := Lib.hid hJ
  have HV := Lib.hid hv0
  have HB0 := Lib.hid hb0
  have KB := Lib.hid kb
  clear h g hl hg hb0 kb hv0 c1 c2 hE hF hG hZ hJ
  -- how an error is answered
  have bad : ∀ (W : World), Below w.heap.size w W → Box3 W w.heap.size K L a len cap K2 L2 b lb cb →
      ((((W.setCell ⟨w.heap.size + 2, 0, none⟩ (.int .i64 0)).setCell ⟨w.heap.size + 2, 1, none⟩ (.int .i64 0)).setCell ⟨w.heap.size + 2, 2, none⟩ (.slice none 0 0)).heap[w.heap.size + 2]? = some (.cells #[.int .i64 0, .int .i64 0, .slice none 0 0] 30 (0, 0))) ∧ Below w.heap.size w (((W.setCell ⟨w.heap.size + 2, 0, none⟩ (.int .i64 0)).setCell ⟨w.heap.size + 2, 1, none⟩ (.int .i64 0)).setCell ⟨w.heap.size + 2, 2, none⟩ (.slice none 0 0)) := fun W hb hk =>
    ⟨three_set hk.k3, three_below hb (by omega) 0 0 (.slice none 0 0)⟩
  have BAD := Lib.hid bad
  clear bad
  go_enter Try.func14, Try.ntmps14
  go_upto_region 1 with fail
  rw [HV.out]
  obtain ⟨X, hX⟩ : ∃ X, w.heap.size = X := ⟨_, rfl⟩
  have HX := Lib.hid hX
  rw [hX] at KB BAD ⊢
  clear HV hX
  have HXw := Lib.hid (show w.heap.size ≤ X from by rw [HX.out]; exact Nat.le_refl _)
  obtain ⟨⟨a0, a1, a2⟩, _⟩ := three_all KB.out.k1
  go_wp2_with fail
  clear a0 a1 a2
  refine HC1.out.mono ?_
  rintro e w1 ⟨rfl, hb1⟩
  have HB1 := Lib.hid (below_on HB0.out hb1)
  replace KB := Lib.hid (KB.out.kept hb1 KB.out.lt)
  clear hb1 HB0 HC1
  by_cases hF0 : F = 0
  rotate_left
  · obtain rfl : E = F := by rw [← HE.out]; unfold joinE; rw [if_pos (by rw [HF.out]; exact hF0), HF.out]
    have t : (E != 0) = true := by simpa using hF0
    obtain ⟨Z9, HBZ⟩ := BAD.out w1 (by rw [← HX.out]; exact HB1.out) KB.out
    obtain ⟨⟨x0, x1, x2⟩, f0, f1, f2⟩ := three_all KB.out.k3
    have HZ9 := Lib.hid Z9
    have HBZ := Lib.hid HBZ
    have HF0 := Lib.hid hF0
    clear hF0 Z9
    go_wp2_with fail
    obtain ⟨⟨z0, z1, z2⟩, _⟩ := three_all HZ9.out
    generalize (((w1.setCell { block := X + 2, off := 0 } (Value.int IntKind.i64 0)).setCell { block := X + 2, off := 1 } (Value.int IntKind.i64 0)).setCell { block := X + 2, off := 2 } (Value.slice none 0 0)) = w9 at *
    clear x0 x1 x2 f0 f1 f2
    try simp only [Exit.inBlock, Exit.then]
    refine bodyPost_ret (by simp [results, Try.results14, go_sem, z0, z1, z2, Result.andThen]; try rfl) rfl ?_
    exact ⟨0, 0, [], _, rfl, Or.inr ⟨HF0.out, rfl, rfl, rfl⟩, Own.nil _ _ _ _, by rw [HX.out]; exact HBZ.out⟩
  subst hF0
  have HC := Lib.hid (HC2.out w1 HB1.out)
  obtain ⟨⟨a0, a1, a2⟩, _⟩ := three_all KB.out.k2
  go_wp2_with fail
  clear a0 a1 a2
  refine HC.out.mono ?_
  rintro e w2 ⟨rfl, hb2⟩
  have HB2 := Lib.hid (below_on HB1.out hb2)
  replace KB := Lib.hid (KB.out.kept hb2 KB.out.lt)
  clear hb2 HB1 HC HC2
  by_cases hG0 : G = 0
  rotate_left
  · obtain rfl : E = G := by rw [← HE.out]; unfold joinE; rw [if_neg (by rw [HF.out]; decide), if_pos (by rw [HGG.out]; exact hG0), HGG.out]
    have t : (E != 0) = true := by simpa using hG0
    obtain ⟨Z9, HBZ⟩ := BAD.out w2 (by rw [← HX.out]; exact HB2.out) KB.out
    obtain ⟨⟨x0, x1, x2⟩, f0, f1, f2⟩ := three_all KB.out.k3
    have HZ9 := Lib.hid Z9
    have HBZ := Lib.hid HBZ
    have HG0 := Lib.hid hG0
    clear hG0 Z9
    go_wp2_with fail
    obtain ⟨⟨z0, z1, z2⟩, _⟩ := three_all HZ9.out
    generalize (((w2.setCell { block := X + 2, off := 0 } (Value.int IntKind.i64 0)).setCell { block := X + 2, off := 1 } (Value.int IntKind.i64 0)).setCell { block := X + 2, off := 2 } (Value.slice none 0 0)) = w9 at *
    clear x0 x1 x2 f0 f1 f2
    try simp only [Exit.inBlock, Exit.then]
    refine bodyPost_ret (by simp [results, Try.results14, go_sem, z0, z1, z2, Result.andThen]; try rfl) rfl ?_
    exact ⟨0, 0, [], _, rfl, Or.inr ⟨HG0.out, rfl, rfl, rfl⟩, Own.nil _ _ _ _, by rw [HX.out]; exact HBZ.out⟩
  subst hG0
  obtain ⟨⟨a0, a1, a2⟩, _⟩ := three_all KB.out.k1
  obtain ⟨⟨b0, b1, b2⟩, _⟩ := three_all KB.out.k2
  by_cases hKK : K = K2
  rotate_left
  · obtain rfl : E = 7 := by rw [← HE.out]; unfold joinE; rw [if_neg (by rw [HF.out]; decide), if_neg (by rw [HGG.out]; decide), if_pos hKK]
    have t : (K != K2) = true := by simpa using hKK
    obtain ⟨Z9, HBZ⟩ := BAD.out w2 (by rw [← HX.out]; exact HB2.out) KB.out
    obtain ⟨⟨x0, x1, x2⟩, f0, f1, f2⟩ := three_all KB.out.k3
    have HZ9 := Lib.hid Z9
    have HBZ := Lib.hid HBZ
    clear hKK Z9
    go_wp2_with fail
    obtain ⟨⟨z0, z1, z2⟩, _⟩ := three_all HZ9.out
    generalize (((w2.setCell { block := X + 2, off := 0 } (Value.int IntKind.i64 0)).setCell { block := X + 2, off := 1 } (Value.int IntKind.i64 0)).setCell { block := X + 2, off := 2 } (Value.slice none 0 0)) = w9 at *
    clear x0 x1 x2 f0 f1 f2 a0 a1 a2 b0 b1 b2
    try simp only [Exit.inBlock, Exit.then]
    refine bodyPost_ret (by simp [results, Try.results14, go_sem, z0, z1, z2, Result.andThen]; try rfl) rfl ?_
    exact ⟨0, 0, [], _, rfl, Or.inr ⟨by decide, rfl, rfl, rfl⟩, Own.nil _ _ _ _, by rw [HX.out]; exact HBZ.out⟩
  subst hKK
  have hGC := fewE_zero.1 HF.out
  have hGD := fewE_zero.1 HGG.out
  obtain ⟨k, rfl⟩ : ∃ k : Nat, K = (k : Int) := ⟨K.toNat, by have := hGC.k1; omega⟩
  have hk16 : k ≤ 16 := by have := hGC.k2; omega
  have hlen : len ≤ 16 := by have := hGC.len; rw [HL.out] at this; omega
  have hlb : lb ≤ 16 := by have := hGD.len; rw [HM.out] at this; omega
  have hE2 : E = setE (L + L2 + Z) J := by rw [← HE.out]; unfold joinE; rw [if_neg (by rw [HF.out]; decide), if_neg (by rw [HGG.out]; decide), if_neg (by simp), HZ.out, HJ.out]
  have tK : ((k : Int) != (k : Int)) = false := by simp
  have l1 := hGC.l1
  have l2 := hGC.l2
  have m1 := hGD.l1
  have m2 := hGD.l2
  have HCB := Lib.hid (fun j => addAll_bd (C := C) hGC.num (D := D) j hGD.num)
  have HCO := Lib.hid (fun j => addAll_ord (C := C) (D := D.take j) hGC.ord)
  have HDN := Lib.hid hGD.num
  have HCL := Lib.hid (fun j => addAll_len (D.take j) C)
  have CC := Lib.hid (clone_counters a len cap C w2 (HT.out.below HB2.out) (by omega))
  have HS := Lib.hid (fun (W : World) (q : Option Addr) (m c : Nat) (hT : Tab W q m c 2 ((addAll C D).map iiC)) (hm : (addAll C D).length = m) => settle_any k (L + L2) q m c (addAll C D) W hT hk16 (by have := addAll_len D C; rw [HL.out, HM.out] at this; omega) (by omega) (by omega) (fun d hd => by
    have := addAll_bd (C := C) hGC.num (D := D) D.length hGD.num (Nat.le_refl _) d (by rw [List.take_length]; exact hd)
    rw [HM.out] at this
    have h3 : (lb : Int) * 1000000000000 ≤ 16 * 1000000000000 := Int.mul_le_mul_of_nonneg_right (by omega) (by decide)
    omega))
  have HZ2 : Hid (exC (addAll C D) k = Z) := Lib.hid (by rw [← HZ.out]; rfl)
  have HJ2 : Hid (lowC Z (addAll C D) = J) := Lib.hid (by rw [← HJ.out, ← HZ.out]; rfl)
  rw [HZ2.out, HJ2.out, ← hE2] at HS
  clear hGC hGD hE2 BAD
  go_wp2_with fail
  clear a0 a1 a2 b0 b1 b2
  refine CC.out.mono ?_
  rintro e w3 ⟨v, rfl, hO3, hb3⟩
  have HB3 := Lib.hid (below_on HB2.out hb3)
  have hbs := KB.out.lt
  replace KB := Lib.hid (KB.out.kept hb3 hbs)
  have HO3 := Lib.hid hO3
  have HS2 := Lib.hid hb3.size
  have HXs : Hid (X + 2 < w2.heap.size) := Lib.hid hbs
  have HBQ := Lib.hid HB2.out.size
  obtain ⟨base, hbase⟩ : ∃ s, w2.heap.size = s := ⟨_, rfl⟩
  rw [hbase] at HO3 HXs HS2 HBQ
  clear hb3 hO3 CC hbs hbase HB2
  obtain ⟨⟨b0, b1, b2⟩, _⟩ := three_all KB.out.k2
  go_wp2_with fail
  clear b0 b1 b2
  go_loopg [8, 35] lb (fun gg v i wr => ∃ j : Nat, j + gg = lb ∧ i = .int .i64 j ∧ Hid (Own wr base 36 2 v ((addAll C (D.take j)).map iiC)) ∧ Hid (Box3 wr X k L a len cap k L2 b lb cb) ∧ Hid (base ≤ wr.heap.size) ∧ Hid (Below w.heap.size w wr))
  case atStart => exact ⟨0, by omega, rfl, HO3, KB, HS2, HB3⟩
  case round =>
    clear HO3 KB HS2 HB3
    obtain ⟨j, hj0, rfl, HO, KB, HSZ, HB⟩ := hrel
    have HJJ := Lib.hid hj0
    have hj : j ≤ lb := by omega
    clear hj0
    by_cases hlt : j < lb
    · obtain ⟨⟨key, n⟩, hx⟩ : ∃ x, D[j]? = some x := ⟨_, List.getElem?_eq_getElem (by rw [HM.out]; exact hlt)⟩
      obtain ⟨bb, oo, ha, hbs, p0, p1⟩ := HG.out.two HB.out (map_get hx)
      have hn := HDN.out _ (List.mem_of_getElem? hx)
      simp only at hn
      have hal : Below wr.heap.size wr (wr.alloc (.cells #[.int .i64 key, .int .i64 n] 36)) := (Below.refl _ _).alloc (Nat.le_refl _) _
      have kc := (MapKept.heap_alloc wr (.cells #[.int .i64 key, .int .i64 n] 36)).1
      have hOa := HO.out.below hal
      have hsa := hal.size
      have hAd := fewAdd_any (key := key) (n := n) hOa (HCO.out j) (by have := HCL.out j; rw [List.length_take, HL.out, HM.out] at this; omega) (fun d hd => by
        have := HCB.out j (by rw [HM.out]; omega) d hd
        have h3 : (j : Int) * 1000000000000 ≤ 16 * 1000000000000 := Int.mul_le_mul_of_nonneg_right (by omega) (by decide)
        omega) (by omega) hn.2 (by have := HSZ.out; omega)
      rw [← addAll_snoc hx] at hAd
      obtain ⟨w5, hw5⟩ : ∃ v, wr.alloc (.cells #[.int .i64 key, .int .i64 n] 36) = v := ⟨_, rfl⟩
      rw [hw5] at hal kc hAd hsa
      have HAd := Lib.hid hAd
      have HV5 := Lib.hid hw5
      have KC := Lib.hid kc
      have KB5 := Lib.hid (KB.out.kept hal KB.out.lt)
      have HB5 := Lib.hid (below_on HB.out hal)
      have HS5 : Hid (base ≤ w5.heap.size) := Lib.hid (Nat.le_trans HSZ.out hsa)
      subst ha
      clear hx hn hal kc hOa hAd hsa hw5
      go_upto_region 13 with fail
      rw [HV5.out]
      obtain ⟨Y, hY⟩ : ∃ Y, wr.heap.size = Y := ⟨_, rfl⟩
      rw [hY] at KC ⊢
      clear HV5 hY p0 p1
      obtain ⟨e0, e1⟩ := pair_cells KC.out
      go_wp2_with fail
      clear e0 e1
      refine HAd.out.mono ?_
      rintro e w6 ⟨v6, rfl, hO6, hb6⟩
      have HO6 := Lib.hid hO6
      have KB6 := Lib.hid (KB5.out.kept hb6 HXs.out)
      have HB6 := Lib.hid (HB5.out.trans (hb6.mono HBQ.out))
      have HS6 : Hid (base ≤ w6.heap.size) := Lib.hid (Nat.le_trans HS5.out hb6.size)
      clear hO6 hb6 HAd
      go_wp2_with fail
      go_roundg (lb - (j + 1))
      case measure => have := HJJ.out; omega
      case rel => exact ⟨j + 1, by omega, by go_num, HO6, KB6, HS6, HB6⟩
    · obtain rfl : j = lb := by omega
      rw [List.take_of_length_le (by rw [HM.out]; exact Nat.le_refl _)] at HO
      obtain ⟨nA, hnA⟩ : ∃ m, (addAll C D).length = m := ⟨_, rfl⟩
      obtain ⟨aA, cA, hv, hTA⟩ := own_ctrs HO.out hnA
      have HSe := Lib.hid (HS.out wr aA nA cA hTA hnA)
      subst hv
      clear hTA hnA HS
      obtain ⟨⟨a0, a1, a2⟩, _⟩ := three_all KB.out.k1
      obtain ⟨⟨b0, b1, b2⟩, _⟩ := three_all KB.out.k2
      go_wp2_with fail
      clear a0 a1 a2 b0 b1 b2
      refine HSe.out.mono ?_
      rintro e w5 ⟨Kr, Lr, Cr, v5, rfl, hOut, hO5, hb5⟩
      obtain ⟨nC, hnC⟩ : ∃ m, Cr.length = m := ⟨_, rfl⟩
      obtain ⟨a5, c5, rfl, _⟩ := own_ctrs hO5 hnC
      have hXl := KB.out.lt
      replace KB := Lib.hid (KB.out.kept hb5 hXl)
      have HOut := Lib.hid hOut
      have HB5 := Lib.hid (below_on HB.out hb5)
      have HBZ := Lib.hid (three_below HB5.out (b := X + 2) (by have := HXw.out; omega) Kr Lr (.slice a5 nC c5))
      have HOZ := Lib.hid ((three_own hO5 hXl Kr Lr (.slice a5 nC c5)).base_le (B := w.heap.size) HB.out.size)
      obtain ⟨⟨x0, x1, x2⟩, f0, f1, f2⟩ := three_all KB.out.k3
      have Z9 := three_all (three_set (x' := Kr) (y' := Lr) (v' := .slice a5 nC c5) KB.out.k3)
      clear hOut hO5 hb5 HSe hnC hXl
      go_wp2_with fail
      obtain ⟨⟨z0, z1, z2⟩, _⟩ := Z9
      generalize (((w5.setCell { block := X + 2, off := 0 } (Value.int IntKind.i64 Kr)).setCell { block := X + 2, off := 1 } (Value.int IntKind.i64 Lr)).setCell { block := X + 2, off := 2 } (Value.slice a5 nC c5)) = w9 at *
      clear x0 x1 x2 f0 f1 f2
      try simp only [Exit.inBlock, Exit.then]
      refine bodyPost_ret (by simp [results, Try.results14, go_sem, z0, z1, z2, Result.andThen]; try rfl) rfl ?_
      exact ⟨Kr, Lr, Cr, _, rfl, HOut.out, HOZ.out, HBZ.out⟩
end Go.Proofs.Ytffgoekdjcempab

/- Five sketches to which the same keys came: what each of them holds, filled one by one and joined. Mathematics alone. -/
namespace Go.Proofs.Ytffgoekdjcempab
open Go.ChangeShapes Go.WideShapes Go.ChangeAt Go.RowKit
namespace Five
def ones (l : List Int) : List (Int × Int) := l.map (fun x => (x, 1))
theorem ones_append (l m : List Int) : ones (l ++ m) = ones l ++ ones m := by simp [ones]
theorem ones_one (x : Int) : ones [x] = [(x, 1)] := rfl
theorem ones_tot : ∀ l : List Int, Few.tot (ones l) = l.length
  | [] => rfl
  | x :: l => by
    have h := ones_tot l
    have e : ones (x :: l) = (x, 1) :: ones l := rfl
    rw [e, Few.tot_cons, h, List.length_cons]
    simp only
    omega
theorem ones_sum (l : List Int) : Came.sumN (ones l) = l.length := ones_tot l
theorem ones_pos {l : List Int} : ∀ p ∈ ones l, 0 ≤ p.2 := by
  intro p hp
  obtain ⟨x, _, rfl⟩ := List.mem_map.1 hp
  exact Int.one_nonneg
def bL (l : List Int) : List Int := Least.T 5 l
def fB (l : List Int) : List Bool := Bloom.putB (List.replicate 100 false) (Bloom.allP 100 3 l)
def fT (l : List Int) : List (List Int) := Tbl.allR 7 (ones l) (Tbl.zeroR 7 2)
def rL (l : List Int) : List Int := Regs.regL 4 l
theorem b_nil : bL [] = [] := Least.T_nil 5
theorem f_nil : fB [] = List.replicate 100 false := rfl
theorem t_nil : fT [] = Tbl.zeroR 7 2 := rfl
theorem r_nil : rL [] = List.replicate 4 0 := Regs.regL_nil 4
theorem b_good {l : List Int} (h : ∀ y ∈ l, 0 ≤ y ∧ y < 72057594037927936) : Least.bottomE (5 : Nat) (bL l) = 0 := Least.T_good (by decide) (by decide) h
theorem b_snoc (l : List Int) (x : Int) : Least.T 5 (bL l ++ [x]) = bL (l ++ [x]) := Least.T_absorb 5 l [x]
theorem b_join (A B : List Int) : Least.T 5 (bL B ++ bL A) = bL (A ++ B) := by
  unfold bL
  rw [Least.T_both]
  exact Least.T_congr 5 (fun y => by rw [List.mem_append, List.mem_append]; exact Or.comm)
theorem f_len (l : List Int) : (fB l).length = 100 := by unfold fB; rw [Bloom.putB_len, List.length_replicate]
theorem f_good : filterE 100 3 100 = 0 := by decide
theorem f_snoc (l : List Int) (x : Int) : Bloom.putB (fB l) (Bloom.places x 100 3) = fB (l ++ [x]) := by
  unfold fB
  rw [← Bloom.putB_append, Bloom.allP_append]
  simp [Bloom.allP]
theorem f_join (A B : List Int) : Bloom.orB (fB B) (fB A) = fB (A ++ B) := by
  unfold fB
  rw [Bloom.orB_put, Bloom.allP_append]
  refine Bloom.putB_congr (fun i => ?_)
  rw [List.mem_append, List.mem_append]
  exact Or.comm
theorem f_has {l : List Int} {x : Int} (h : x ∈ l) : Bloom.hasB (fB l) (Bloom.places x 100 3) = true := by
  unfold fB
  refine Bloom.hasB_put (fun p hp => ?_) (Bloom.allP_mem h)
  rw [List.length_replicate]
  exact Bloom.places_lt (by decide) p hp
theorem t_good {l : List Int} (h : l.length ≤ 60) : Tbl.GoodT 7 (fT l) :=
  Tbl.all_zero_good (by decide) (by decide) (by decide) (by decide) ones_pos (by rw [ones_sum]; omega)
theorem t_snoc (l : List Int) (x : Int) : Tbl.putR 7 x 1 (fT l) = fT (l ++ [x]) := by
  unfold fT
  rw [ones_append, Tbl.allR_append, ones_one, Tbl.allR_cons, Tbl.allR_nil]
theorem t_len (l : List Int) : (fT l).length = 2 := by unfold fT; rw [Tbl.allR_len]; rfl
theorem t_put {l : List Int} {x : Int} (h : l.length < 60) : Tbl.putE (7 : Nat) (fT l) x 1 = 0 := by
  rw [Tbl.putE_ok (t_good (by omega)) (by decide) (by decide), t_snoc]
  exact Tbl.good_fits (t_good (by rw [List.length_append]; simp only [List.length_singleton]; omega))
theorem t_join (A B : List Int) : Tbl.joinR (fT B) (fT A) = fT (A ++ B) := by
  unfold fT
  rw [ones_append, Tbl.all_join2]
theorem t_joinE {A B : List Int} (h : (A ++ B).length ≤ 60) : Tbl.joinE (7 : Nat) (fT B) (7 : Nat) (fT A) = 0 := by
  have h1 : A.length ≤ 60 := by rw [List.length_append] at h; omega
  have h2 : B.length ≤ 60 := by rw [List.length_append] at h; omega
  unfold Tbl.joinE
  rw [Tbl.tabE_ok (t_good h2), Tbl.tabE_ok (t_good h1), if_neg (by decide), if_neg (by decide), if_neg (by rw [t_len, t_len]; decide), t_join]
  exact Tbl.good_fits (t_good h)
theorem t_ask {l : List Int} {x : Int} (h : l.length ≤ 60) : oft x (ones l) ≤ Tbl.askR 7 x (fT l) :=
  (Tbl.ask_all (by decide) (by decide) ones_pos (by rw [ones_sum]; omega)).1
theorem r_snoc (l : List Int) {x : Int} (h0 : 0 ≤ x) (h1 : x < 72057594037927936) : Regs.putE (rL l) x = 0 ∧ Regs.putL (rL l) x = rL (l ++ [x]) := Regs.putL_reg (by decide) l h0 h1
theorem r_join (A B : List Int) : Regs.pairE (rL B) (rL A) = 0 ∧ Regs.joinL (rL B) (rL A) = rL (A ++ B) := by
  have h := Regs.joinL_reg (N := 4) (by decide) B A
  refine ⟨h.1, h.2.trans (Regs.regL_same (fun j => ?_))⟩
  rw [Regs.bigN_append, Regs.bigN_append]
  omega
theorem c_nil : Few.Near 4 (ones []) 0 [] := Few.near_nil (by decide) (by decide)
theorem c_snoc {l : List Int} {x L : Int} {C : List (Int × Int)} (h : Few.Near 4 (ones l) L C) (hl : l.length < 60) : Few.putE 4 L C x 1 = 0 ∧ Few.Near 4 (ones (l ++ [x])) (L + Few.putZ 4 C x 1) (Few.putC 4 C x 1) := by
  rw [ones_append, ones_one]
  exact Few.near_putE h (by decide) (by rw [ones_tot]; omega) (by decide)
theorem c_join {A B : List Int} {L M : Int} {C D : List (Int × Int)} (hA : Few.Near 4 (ones A) L C) (hB : Few.Near 4 (ones B) M D) (hl : (A ++ B).length ≤ 60) : Few.joinE 4 M D 4 L C = 0 ∧ Few.Near 4 (ones B ++ ones A) (M + L + Few.joinZ 4 D C) (Few.joinC 4 D C) := by
  rw [List.length_append] at hl
  have hj := Few.near_join hB hA (by rw [ones_tot, ones_tot]; omega)
  refine ⟨?_, hj⟩
  unfold Few.joinE
  rw [if_neg (by rw [Few.fewE_zero.2 hB.good]; decide), if_neg (by rw [Few.fewE_zero.2 hA.good]; decide), if_neg (by simp)]
  exact Few.setE_good hj.good
/-- between the two bounds of the one sketch and of the joined one, and at most the table's counter -/
theorem c_ask {A B : List Int} {L M x : Int} {C D : List (Int × Int)} (h : Few.Near 4 (ones B ++ ones A) L C) (g : Few.Near 4 (ones (A ++ B)) M D) (hl : (A ++ B).length ≤ 60) :
    oft x C ≤ Tbl.askR 7 x (fT (A ++ B)) ∧ oft x D ≤ Tbl.askR 7 x (fT (A ++ B)) ∧ oft x D ≤ oft x C + L ∧ oft x C ≤ oft x D + M := by
  have h1 := h.low x
  have h2 := h.high x
  have h3 := g.low x
  have h4 := g.high x
  have h5 := t_ask (x := x) hl
  have e : oft x (ones B ++ ones A) = oft x (ones (A ++ B)) := by rw [ones_append, oft_append, oft_append, Int.add_comm]
  omega
end Five
end Go.Proofs.Ytffgoekdjcempab
