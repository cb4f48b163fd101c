/-
  'Rows.FewSaysSaid' is proved: whatever is handed in, Check, Put and Ask answer what the document says. No condition.
-/
import Derived.Test.YtffgoekdjcempaaGreatRows
import Derived.Test.YtffgoekdjcempaaGreatShapes
import Derived.Test.YtffgoekdjcempaaGreatStepRows
import Derived.Test.YtffgoekdjcempaaGreatFewVar
import Derived.Test.YtffgoekdjcempaaGreatFewAsk
import Derived.Test.YtffgoekdjcempaaGreatRefFewSame
import Derived.Test.YtffgoekdjcempaaGreatRefCounts
import Derived.Test.YtffgoekdjcempaaGreatFewer
import Derived.Test.YtffgoekdjcempaaGreatCloneCounters
import Derived.Deep.DeepCutAuto
import Derived.Deep.RegionHeldLaw
import Derived.Deep.RegionHeld3
import Derived.Deep.RegionWith
import Derived.WalkKit
import Derived.ProofKit
import Derived.OpenShut
import Derived.ShutString
import Derived.ChangeOld
import Derived.Below
namespace Go.Proofs.YtffgoekdjcempaaGreat.fewSays
open Go.ChangeShapes Go.WideShapes Go.ChangeAt Go.RowKit
open Go.ChangeMaps (open_string shut_string)
set_option linter.unusedVariables false

theorem own : ownKnob Tryz.prog.godebug = none := by kernel_rfl
theorem laidOut : laidOutB Tryz.prog = true := by kernel_rfl

--BEATS
open Few
theorem nil_ctrs (w : World) : Tab w none 0 0 2 (([] : List (Int × Int)).map iiC) := (Own.nil w 0 37 2).tab_of
theorem fewE_none : fewE 0 0 [] = 1 := fewE_arg (by omega)
theorem sum_bd : ∀ {C : List (Int × Int)}, (∀ p ∈ C, 1 ≤ p.2 ∧ p.2 ≤ 1000000000000) → Came.sumN C ≤ 1000000000000 * C.length
  | [], _ => by simp [Came.sumN]
  | p :: C, h => by
    have h1 := h p (by simp)
    have h2 := sum_bd (C := C) (fun q hq => h q (by simp [hq]))
    have e : Came.sumN (p :: C) = p.2 + Came.sumN C := by simp [Came.sumN]
    rw [e, List.length_cons]
    omega
/-- a block that holds a sketch of nothing -/
def ZB (v W : World) (i : Nat) : Prop := v.heap.size ≤ i ∧ W.heap[i]? = some (.cells #[.int .i64 0, .int .i64 0, .slice none 0 0] 24 (0, 0))
theorem ZB.new {v W : World} (h : v.heap.size ≤ W.heap.size) : ZB v (W.alloc (.cells #[.int .i64 0, .int .i64 0, .slice none 0 0] 24)) W.heap.size := ⟨h, (MapKept.heap_alloc W _).1⟩
theorem ZB.new1 {v W : World} (o : Obj) (h : v.heap.size ≤ W.heap.size) : ZB v ((W.alloc o).alloc (.cells #[.int .i64 0, .int .i64 0, .slice none 0 0] 24)) (W.heap.size + 1) := by
  have := ZB.new (v := v) (W := W.alloc o) (by simp; omega)
  simpa using this
theorem ZB.lt {v W : World} {i : Nat} (h : ZB v W i) : i < W.heap.size := (Array.getElem?_eq_some_iff.1 h.2).1
theorem ZB.alloc {v W : World} {i : Nat} (h : ZB v W i) (o : Obj) : ZB v (W.alloc o) i := ⟨h.1, (Below.heap_alloc _ _ _ h.lt).trans h.2⟩
theorem ZB.drew {v W : World} {i : Nat} (h : ZB v W i) : ZB v W.drew i := h
theorem ZB.below {v W W' : World} {i : Nat} (h : ZB v W i) (hb : Below W.heap.size W W') : ZB v W' i := ⟨h.1, (hb.block i h.lt).trans h.2⟩
theorem ZB.grown {v W W' : World} {i : Nat} {row : Option Nat} (h : ZB v W i) (hg : W.grownBy W' row) (hne : some i ≠ row) : ZB v W' i := ⟨h.1, (hg.block i h.lt hne).trans h.2⟩
theorem news_alloc {W : World} {N : List Value} {g : Nat} (h : ∀ j u, [N].flatten[j]? = some u → W.cell? ((⟨g, 0, none⟩ : Addr).add j) = some u) (hg : g < W.heap.size) (o : Obj) : ∀ j u, [N].flatten[j]? = some u → (W.alloc o).cell? ((⟨g, 0, none⟩ : Addr).add j) = some u :=
  fun j u hj => (((Below.refl _ _).alloc (Nat.le_refl _) o).cell (by rw [addr_add]; exact hg)).trans (h j u hj)
theorem news_below {W W' : World} {N : List Value} {g : Nat} (h : ∀ j u, [N].flatten[j]? = some u → W.cell? ((⟨g, 0, none⟩ : Addr).add j) = some u) (hg : g < W.heap.size) (hb : Below W.heap.size W W') : ∀ j u, [N].flatten[j]? = some u → W'.cell? ((⟨g, 0, none⟩ : Addr).add j) = some u :=
  fun j u hj => (hb.cell (by rw [addr_add]; exact hg)).trans (h j u hj)
theorem own_apart {w : World} {base : Nat} {e : TypeId} {k : Nat} {v : Value} {R : List (List Value)} (h : Own w base e k v R) {g : Nat} (hg : ∀ b, v.ownBlock = some b → b ≠ g) (i : Nat) (u : Value) : Own (w.setCell ⟨g, i, none⟩ u) base e k v R :=
  h.keptBy (grown_cell w ⟨g, i, none⟩ u) (by
    cases e1 : v.ownBlock with
    | none => exact Or.inl rfl
    | some b => exact Or.inr (fun e2 => hg b e1 (Option.some.inj e2)))
theorem late_own {w : World} {base : Nat} {e : TypeId} {k : Nat} {v : Value} {R : List (List Value)} (h : Own w base e k v R) (o : Obj) (x y u : Value) : Own ((((w.alloc o).setCell ⟨w.heap.size, 0, none⟩ x).setCell ⟨w.heap.size, 1, none⟩ y).setCell ⟨w.heap.size, 2, none⟩ u) base e k v R := by
  have hg : ∀ b, v.ownBlock = some b → b ≠ w.heap.size := fun b hb => by have := (h.own.lt b hb).2; omega
  exact own_apart (own_apart (own_apart (h.alloc o) hg 0 x) hg 1 y) hg 2 u
theorem size_alloc1 (W : World) (o : Obj) : W.heap.size + 1 = (W.alloc o).heap.size := by simp
theorem lt_alloc (W : World) (o : Obj) : W.heap.size < (W.alloc o).heap.size := by simp
theorem lt_alloc2 (W : World) (o p : Obj) : W.heap.size < ((W.alloc o).alloc p).heap.size := by simp; omega
theorem lt_alloc1 (W : World) (o p : Obj) : W.heap.size + 1 < ((W.alloc o).alloc p).heap.size := by simp
theorem out_same {E K L : Int} {C : List (Int × Int)} {K1 L1 K2 L2 : Int} {C1 C2 : List (Int × Int)} (h1 : Out E K L C K1 L1 C1) (h2 : Out E K L C K2 L2 C2) : K1 = K2 ∧ L1 = L2 ∧ C1 = C2 := by
  rcases h1 with ⟨a0, a1, a2, a3⟩ | ⟨a0, a1, a2, a3⟩ <;> rcases h2 with ⟨b0, b1, b2, b3⟩ | ⟨b0, b1, b2, b3⟩
  · exact ⟨a1.trans b1.symm, a2.trans b2.symm, a3.trans b3.symm⟩
  · exact absurd a0 b0
  · exact absurd b0 a0
  · exact ⟨a1.trans b1.symm, a2.trans b2.symm, a3.trans b3.symm⟩

set_option maxRecDepth 100000 in
set_option maxHeartbeats 12000000 in
theorem walk (x0_0 : Int) (x0_1 : Int) (x0_2 : Sl (Int × Int)) (x1 : Int) (x2 : Int) (w : World) (w0_0 : (Lit.int .i64 x0_0).wf = true) (w0_1 : (Lit.int .i64 x0_1).wf = true) (t0_2 : Tab w x0_2.a x0_2.len x0_2.cap 2 (x0_2.l.map iiC)) (b0_2 : x0_2.len * 16 ≤ 140737488351232) (o0_2 : ∀ z ∈ x0_2.l, wfII z) (w1 : (Lit.int .i64 x1).wf = true) (w2 : (Lit.int .i64 x2).wf = true) :
    Calls Tryz.prog 3 #[.agg #[.int .i64 x0_0, .int .i64 x0_1, .slice x0_2.a x0_2.len x0_2.cap], .int .i64 x1, .int .i64 x2] w fun e w' => e = .returned (.bool true) ∧ Below w.heap.size w w' := by
  obtain ⟨a, len, cap, C⟩ := x0_2
  simp only at t0_2 o0_2 b0_2
  generalize x0_0 = K at *
  generalize x0_1 = L at *
  generalize x1 = key at *
  generalize x2 = n at *
  have hl : C.length = len := by have h := t0_2.hlen; rw [List.length_map] at h; exact h
  have hcap : cap ≤ 9223372036854775807 := by have h := t0_2.hmax; unfold maxLen at h; simpa using h
  have hle : len ≤ cap := t0_2.hle
  have hb0 : Below w.heap.size w (w.alloc (.cells #[.int .i64 K, .int .i64 L, .slice a len cap] 24)) := (Below.refl _ _).alloc (Nat.le_refl _) _
  have k1 := (MapKept.heap_alloc w (.cells #[.int .i64 K, .int .i64 L, .slice a len cap] 24)).1
  have T1 := t0_2.below hb0
  have C0 := fewPut_any K L a len cap C key n _ T1
  obtain ⟨v0, hv0⟩ : ∃ v, w.alloc (.cells #[.int .i64 K, .int .i64 L, .slice a len cap] 24) = v := ⟨_, rfl⟩
  rw [hv0] at hb0 k1 C0 T1
  unfold fewV at C0
  have HV := Lib.hid hv0
  have HB0 := Lib.hid hb0
  have SF : Hid (FV v0 w.heap.size K L a len cap C) := Lib.hid ⟨k1, T1⟩
  have HL := Lib.hid hl
  have HWF := Lib.hid o0_2
  have HWK := Lib.hid w1
  have CP := Lib.hid C0
  obtain ⟨PE, hPE⟩ : ∃ PE, putE K L C key n = PE := ⟨_, rfl⟩
  rw [hPE] at CP
  have HPE := Lib.hid hPE
  clear hb0 k1 T1 hv0 t0_2 o0_2 b0_2 hl w0_0 w0_1 w1 w2 C0 hPE
  go_enter Tryz.func3, Tryz.ntmps3
  go_wp2_with fail
  rw [HV.out]
  obtain ⟨X, hX⟩ : ∃ X, w.heap.size = X := ⟨_, rfl⟩
  have HX := Lib.hid hX
  rw [hX] at SF ⊢
  clear HV hX
  obtain ⟨c0, d0, e0⟩ := SF.out.cells
  try go_wp2_with fail
  clear c0 d0 e0
  refine CP.out.mono ?_
  rintro e u1 ⟨PK, PL, PC, vP, rfl, hOut, hOP, hb⟩
  obtain ⟨aP, cP, rfl, hTP⟩ := own_ctrs hOP rfl
  obtain ⟨nP, hnP⟩ : ∃ m, PC.length = m := ⟨_, rfl⟩
  rw [hnP] at hTP ⊢
  replace SF := Lib.hid (SF.out.below hb)
  have hXu : X < u1.heap.size := (Array.getElem?_eq_some_iff.1 SF.out.1).1
  have hz := FV.new (K := PK) (L := PL) hTP
  replace SF := Lib.hid (SF.out.below hz.2)
  have HB1 := Lib.hid (below_on (below_on HB0.out hb) hz.2)
  obtain ⟨v2, hv2⟩ : ∃ v, u1.alloc (.cells #[.int .i64 PK, .int .i64 PL, .slice aP nP cP] 24) = v := ⟨_, rfl⟩
  rw [hv2] at SF HB1 hz
  obtain ⟨Y, hY⟩ : ∃ Y, u1.heap.size = Y := ⟨_, rfl⟩
  rw [hY] at hz hXu
  have SY := Lib.hid hz.1
  have HVX := Lib.hid (And.intro hv2 hY)
  have HOut := Lib.hid hOut
  have hXw : w.heap.size ≤ X := by rw [HX.out]; exact Nat.le_refl _
  obtain ⟨E, hE⟩ : ∃ E, fewE K L C = E := ⟨_, rfl⟩
  have HE := Lib.hid hE
  obtain ⟨lo, hi, CA⟩ : ∃ lo hi : Int, Hid ((E ≠ 0 → lo = 0 ∧ hi = 0) ∧ (E = 0 → lo = oft key C ∧ hi = oft key C + L) ∧ ∀ W, Tab W a len cap 2 (C.map iiC) → Calls Tryz.prog 6 #[fewV K L a len cap, .int .i64 key] W fun e w' => e = .returned (.tuple #[.int .i64 lo, .int .i64 hi, .int .i64 E]) ∧ Below W.heap.size W w') := by
    by_cases h0 : fewE K L C = 0
    · exact ⟨oft key C, oft key C + L, Lib.hid ⟨fun h => absurd (hE.symm.trans h0) h, fun _ => ⟨rfl, rfl⟩, fun W hT => by rw [← hE, h0]; exact fewAsk_ok K L a len cap C key W hT (fewE_zero.1 h0)⟩⟩
    · exact ⟨0, 0, Lib.hid ⟨fun _ => ⟨rfl, rfl⟩, fun h => absurd (hE.trans h) h0, fun W hT => by rw [← hE]; exact fewAsk_bad K L a len cap C key W hT h0⟩⟩
  have CR := Lib.hid (fun W (hT : Tab W a len cap 2 (C.map iiC)) => by have := refFew_any K L a len cap C W hT; rw [hE] at this; exact this)
  have CC := Lib.hid (fun W (hT : Tab W a len cap 2 (C.map iiC)) => by have := fewCheck_any K L a len cap C W hT; rw [hE] at this; exact this)
  have CN := Lib.hid (fun W => by have := fewCheck_any 0 0 none 0 0 [] W (nil_ctrs W); rw [fewE_none] at this; exact this)
  unfold fewV at CA CR CC CN
  clear hz hb hOP hTP hv2 hY HB0 CP hOut hE hnP
  go_upto_region 2 with fail
  rw [HVX.out.1, HVX.out.2]
  clear HVX
  obtain ⟨c0, d0, e0⟩ := SF.out.cells
  go_wp2_with fail
  clear c0 d0 e0
  refine (CA.out.2.2 _ SF.out.2).mono ?_
  rintro e v3 ⟨rfl, hb⟩
  have HB3 := Lib.hid (below_on HB1.out hb)
  replace SF := Lib.hid (SF.out.below hb)
  replace SY := Lib.hid (SY.out.below hb)
  clear hb HB1
  obtain ⟨c0, d0, e0⟩ := SF.out.cells
  go_wp2_with fail
  clear c0 d0 e0
  refine (CR.out _ SF.out.2).mono ?_
  rintro e v4 ⟨rfl, hb⟩
  have HB4 := Lib.hid (below_on HB3.out hb)
  replace SF := Lib.hid (SF.out.below hb)
  replace SY := Lib.hid (SY.out.below hb)
  clear hb HB3 CR
  obtain ⟨c0, d0, e0⟩ := SF.out.cells
  go_wp2_with fail
  clear c0 d0 e0
  refine (CC.out _ SF.out.2).mono ?_
  rintro e v5 ⟨rfl, hb⟩
  have HB5 := Lib.hid (below_on HB4.out hb)
  replace SF := Lib.hid (SF.out.below hb)
  replace SY := Lib.hid (SY.out.below hb)
  clear hb HB4 CC
  have t1 : (E != E) = false := by simp
  go_wp2_with fail
  refine (CN.out _).mono ?_
  rintro e v6 ⟨rfl, hb⟩
  have HB6 := Lib.hid (below_on HB5.out hb)
  replace SF := Lib.hid (SF.out.below hb)
  replace SY := Lib.hid (SY.out.below hb)
  clear hb HB5 CN t1
  by_cases hE0 : E = 0
  rotate_left
  · obtain ⟨hlo, hhi⟩ := CA.out.1 hE0
    have hPE : PE = E := by rw [← HPE.out]; unfold putE; rw [if_pos (by rw [HE.out]; exact hE0), HE.out]
    have hP := HOut.out
    rw [hPE] at hP
    rcases hP with ⟨h4, _⟩ | ⟨_, h4, h5, h6⟩
    · exact absurd h4 hE0
    subst hlo hhi h4 h5 h6 hPE
    have t2 : (PE != 0) = true := by simpa using hE0
    have t3 : (PE == PE) = true := by simp
    have CS := Lib.hid (sameFew_any 0 0 0 0 aP none nP cP 0 0 [] [] v6 SY.out.2 (nil_ctrs v6) true (by simp))
    unfold fewV at CS
    obtain ⟨c0, d0, e0⟩ := SY.out.cells
    clear hE0
    go_wp2_with fail
    refine CS.out.mono ?_
    rintro e v7 ⟨rfl, hb⟩
    have HB7 := Lib.hid (below_on HB6.out hb)
    clear hb
    go_wp2
    go_ret
    exact ⟨rfl, HB7.out⟩
  subst hE0
  obtain ⟨hlo, hhi⟩ := CA.out.2.1 rfl
  have hG := fewE_zero.1 HE.out
  obtain ⟨k, rfl⟩ : ∃ k : Nat, K = (k : Int) := ⟨K.toNat, by have := hG.k1; omega⟩
  have hk1 : 1 ≤ k := by have := hG.k1; omega
  have hk16 : k ≤ 16 := by have := hG.k2; omega
  have hlen : len ≤ 16 := by have := hG.len; rw [HL.out] at this; omega
  have hl1 := hG.l1
  have hl2 := hG.l2
  have HNU := Lib.hid hG.num
  have HOR := Lib.hid hG.ord
  have hsm : Came.sumN C ≤ 1000000000000000 := by have := sum_bd hG.num; rw [HL.out] at this; omega
  have hs := oft_bd (z := key) (C := C) (fun p hp => by have := (hG.num p hp).1; omega)
  have CT := Lib.hid (fun W (hT : Tab W a len cap 2 (C.map iiC)) => counts_wide a len cap C W hT (by omega) (fun p hp => by have := (HNU.out p hp).1; omega) (fun p hp => (HWF.out p hp).1) hsm)
  obtain ⟨s, hso⟩ : ∃ s, oft key C = s := ⟨_, rfl⟩
  have HSO := Lib.hid hso
  rw [hso] at hlo hhi hs
  subst hlo hhi
  have hs0 := hs.1
  have hs1 : lo ≤ 1000000000000000 := by omega
  clear hs hso hG hsm
  obtain ⟨c0, d0, e0⟩ := SF.out.cells
  go_wp2_with fail
  clear c0 d0 e0
  refine (CT.out _ SF.out.2).mono ?_
  rintro e v7 ⟨MB, rfl, hMB, hM, hb⟩
  have hlook := hM.look lawRC Tryz.underlying32 Tryz.underlying3 (zeroRC _) (Maps.keyOf_int_mk (P := Tryz.prog) Tryz.underlying3 HWK.out)
  rw [oft_reverse, HSO.out] at hlook
  have HB7 := Lib.hid (below_on HB6.out hb)
  replace SF := Lib.hid (SF.out.below hb)
  replace SY := Lib.hid (SY.out.below hb)
  clear hb HB6 CT hM hMB
  obtain ⟨c0, d0, e0⟩ := SF.out.cells
  have t4 : (lo != lo) = false := by simp
  have t5 : (lo + L != lo + L) = false := by simp
  by_cases hn : n < 1 ∨ 1000000000000 < n
  · have hPE : PE = 1 := by rw [← HPE.out]; unfold putE; rw [if_neg (by rw [HE.out]; decide), if_pos hn]
    have hP := HOut.out
    rw [hPE] at hP
    rcases hP with ⟨h4, _⟩ | ⟨_, h4, h5, h6⟩
    · cases h4
    subst h4 h5 h6 hPE
    have CS := Lib.hid (sameFew_any 0 0 0 0 aP none nP cP 0 0 [] [] v7 SY.out.2 (nil_ctrs v7) true (by simp))
    unfold fewV at CS
    obtain ⟨c3, d3, e3⟩ := SY.out.cells
    by_cases hn1 : n < 1
    · clear hn
      go_wp2_with fail
      refine CS.out.mono ?_
      rintro e v8 ⟨rfl, hb⟩
      have HB8 := Lib.hid (below_on HB7.out hb)
      clear hb
      go_wp2
      go_ret
      exact ⟨rfl, HB8.out⟩
    · have hn2 : 1000000000000 < n := by omega
      clear hn
      go_wp2_with fail
      refine CS.out.mono ?_
      rintro e v8 ⟨rfl, hb⟩
      have HB8 := Lib.hid (below_on HB7.out hb)
      clear hb
      go_wp2
      go_ret
      exact ⟨rfl, HB8.out⟩
  · have hn1 : 1 ≤ n := by omega
    have hn2 : n ≤ 1000000000000 := by omega
    have n1 : ¬ n < 1 := by omega
    have n2 : ¬ 1000000000000 < n := by omega
    clear hn
    have hZ : PE = setE (L + exC (addC C (key, n)) k) (lowC (exC (addC C (key, n)) k) (addC C (key, n))) := by
      rw [← HPE.out]; unfold putE putC putZ; rw [if_neg (by rw [HE.out]; decide), if_neg (by omega), Int.toNat_natCast]
    have HOut2 : Hid (Out PE k (L + exC (addC C (key, n)) k) (lowC (exC (addC C (key, n)) k) (addC C (key, n))) PK PL PC) := Lib.hid (by
      have h := HOut.out
      unfold putC putZ at h
      rw [Int.toNat_natCast] at h
      exact h)
    have HCS : Hid (∀ p ∈ C ++ [(key, n)], 1 ≤ p.2 ∧ p.2 ≤ 1000000000000 ∧ wfI p.1) := Lib.hid (fun p hp => by
      rcases List.mem_append.1 hp with h | h
      · exact ⟨(HNU.out p h).1, (HNU.out p h).2, (HWF.out p h).1⟩
      · rw [List.mem_singleton.1 h]; exact ⟨hn1, hn2, HWK.out⟩)
    have HSM : Hid (Came.sumN (C ++ [(key, n)]) ≤ 1000000000000000) := Lib.hid (by
      have h1 := sum_bd HNU.out
      rw [HL.out] at h1
      rw [Came.sumN_append]
      simp only [Came.sumN, List.map_cons, List.map_nil, List.sum_cons, List.sum_nil] at h1 ⊢
      omega)
    have HFE : Hid (∀ (W : World) (MB : Nat), OwnsSums Tryz.prog 3 3 W MB (C ++ [(key, n)]).reverse → Calls Tryz.prog 11 #[.int .i64 k, .int .i64 L, .map (some MB)] W fun e w' => ∃ v, e = .returned (.tuple #[.agg #[.int .i64 PK, .int .i64 PL, v], .int .i64 PE]) ∧ Own w' W.heap.size 37 2 v (PC.map iiC) ∧ Below W.heap.size W w') := Lib.hid (fun W MB hM => by
      refine (fewer_any k L MB _ (addC C (key, n)) W hM (fun p hp => (HCS.out p (List.mem_reverse.1 hp)).1) (by rw [List.length_reverse, List.length_append, HL.out]; simp; omega) (addC_ord HOR.out)
        (fun d hd => by have := addC_bd (c := (key, n)) HNU.out hn1 hn2 (by decide) d hd; omega) (fun x => by rw [addC_oft, oft_reverse, oft_append]; simp [oft]) hk1 hk16 hl1 (by omega)).mono ?_
      rintro e w' ⟨Kr, Lr, Cr, v, rfl, hO, hw, hb⟩
      rw [← hZ] at hO ⊢
      obtain ⟨rfl, rfl, rfl⟩ := out_same hO HOut2.out
      exact ⟨v, rfl, hw, hb⟩)
    have HCL : Hid (∀ W, Below v7.heap.size v7 W → Calls Tryz.prog 12 #[.slice a len cap] W (RetRows W 37 2 (C.map iiC))) := Lib.hid (fun W hb => clone_counters a len cap C W (SF.out.2.below hb) (by omega))
    have HCO : Hid (∀ (W : World) (q : Option Addr) (c : Nat), Tab W q (len + 1) c 2 ((C ++ [(key, n)]).map iiC) → Calls Tryz.prog 10 #[.slice q (len + 1) c] W fun e w' => ∃ b : Nat, e = .returned (.map (some b)) ∧ W.heap.size ≤ b ∧ OwnsSums Tryz.prog 3 3 w' b (C ++ [(key, n)]).reverse ∧ Below W.heap.size W w') :=
      Lib.hid (fun W q c hT => counts_wide q (len + 1) c (C ++ [(key, n)]) W hT (by omega) (fun p hp => by have := (HCS.out p hp).1; omega) (fun p hp => (HCS.out p hp).2.2) HSM.out)
    have HSA := Lib.hid (fun (W : World) (q : Option Addr) (c m : Nat) (hT : Tab W q m c 2 (PC.map iiC)) (hY : FV W Y PK PL aP nP cP PC) => sameFew_any PK PK PL PL aP q nP cP m c PC PC W hY.2 hT true (by simp))
    unfold fewV at HSA
    have hba : Below v7.heap.size v7 (v7.alloc (.cells #[.int .i64 key, .int .i64 n] 37)) := (Below.refl _ _).alloc (Nat.le_refl _) _
    have HSK : Hid (∀ W, Below v7.heap.size v7 W → W.cell? ⟨X, 0, none⟩ = some (.int .i64 k) ∧ W.cell? ⟨X, 1, none⟩ = some (.int .i64 L) ∧ W.cell? ⟨X, 2, none⟩ = some (.slice a len cap)) := Lib.hid (fun W hb => (SF.out.below hb).cells)
    have t3 : (PE == PE) = true := by simp
    clear hba hZ
    go_upto_region 13 with fail
    go_cut [14, 15] (fun p e wx => ∃ (i : Nat) (q : Option Addr) (m c : Nat), p = .pointer (some ⟨i, 0, none⟩) ∧ e = .int .i64 PE ∧ Hid (FV wx i PK PL q m c PC) ∧ Hid (Below v7.heap.size v7 wx))
    case first =>
      go_region_held_law (fun W => W.cell? ⟨X, 0, none⟩ = some (.int .i64 k) ∧ W.cell? ⟨X, 1, none⟩ = some (.int .i64 L) ∧ W.cell? ⟨X, 2, none⟩ = some (.slice a len cap)) (first | exact ⟨c0, d0, e0⟩ | exact ⟨p0, p1, p2⟩ | exact ⟨g0, g1, g2⟩ | exact ⟨h0, h1, h2⟩ | exact ⟨j0, j1, j2⟩ | exact HSK.out _ (three_below hbj9 z9.1.1 _ _ _) | exact HSK.out _ (three_below (hbj9.alloc hsj9 _) hsj9 _ _ _) | exact HSK.out _ ((Below.refl _ _).alloc (Nat.le_refl _) _) | exact HSK.out _ (((Below.refl _ _).alloc (Nat.le_refl _) _).alloc (by simp) _) | exact HSK.out _ (hbj9.alloc hsj9 _) | exact HSK.out _ (hbw8.alloc hs8 _) | exact HSK.out _ (hb6.alloc hs6 _) | exact HSK.out _ (hbw5.alloc hs5 _) | exact HSK.out _ ((hbw5.alloc hs5 _).alloc (by simp; omega) _) | go_keep) (first
        | (go_at_call 12; refine Calls.mono (HCL.out _ ?_) ?_; (first | exact (Below.refl _ _).drew | exact ((Below.refl _ _).alloc (Nat.le_refl _) _).drew | exact (((Below.refl _ _).alloc (Nat.le_refl _) _).alloc (by simp) _).drew)
           rintro e w5 ⟨q5, rfl, hO5', hb5⟩
           obtain ⟨a5, c5, rfl, _⟩ := hO5'.tab
           have hbw5 : Below v7.heap.size v7 w5 := (by first | exact below_on (Below.refl v7.heap.size v7).drew hb5 | exact below_on (((Below.refl v7.heap.size v7).alloc (Nat.le_refl _) _).drew) hb5 | exact below_on ((((Below.refl v7.heap.size v7).alloc (Nat.le_refl _) _).alloc (by simp) _).drew) hb5)
           have ho5 := fun g (hg : (Value.slice a5 (C.map iiC).length c5).ownBlock = some g) => hO5'.own.lt g hg
           have hO5 := hO5'.base_le (B := v7.heap.size) (by first | exact Nat.le_refl _ | (simp; done) | (simp; omega))
           have hs5 := hbw5.size
           (first | have z5 := (ZB.new (v := v7) (W := v7) (Nat.le_refl _)).drew.below hb5 | have z5 := ((ZB.new (v := v7) (W := v7) (Nat.le_refl _)).alloc _).drew.below hb5 | have z5 := (ZB.new1 (v := v7) (W := v7) (.cells #[.int .i64 key, .int .i64 n] 37) (Nat.le_refl _)).drew.below hb5 | skip)
           (first
             | have n5 := news_below (W := (v7.alloc (.cells #[.int .i64 key, .int .i64 n] 37)).drew) (one_row v7 (iiC (key, n)) 37 v7.heap.size rfl) (lt_alloc _ _) hb5
             | have n5 := news_below (W := ((v7.alloc (.cells #[.int .i64 key, .int .i64 n] 37)).alloc (.cells #[.int .i64 0, .int .i64 0, .slice none 0 0] 24)).drew) (news_alloc (one_row v7 (iiC (key, n)) 37 v7.heap.size rfl) (lt_alloc _ _) _) (lt_alloc2 _ _ _) hb5
             | have n5 := news_below (W := ((v7.alloc (.cells #[.int .i64 0, .int .i64 0, .slice none 0 0] 24)).alloc (.cells #[.int .i64 key, .int .i64 n] 37)).drew) (one_row (v7.alloc (.cells #[.int .i64 0, .int .i64 0, .slice none 0 0] 24)) (iiC (key, n)) 37 (v7.heap.size + 1) (size_alloc1 _ _)) (lt_alloc1 _ _ _) hb5
             | skip)
           obtain ⟨p0, p1, p2⟩ := (SF.out.below hbw5).cells
           simp only [List.length_map] at hO5 ho5 ⊢
           rw [HL.out] at hO5 ho5 ⊢)
        | (refine step_append_rows _ rfl _ _ 22 rfl v7.heap.size 37 _ 2 16 Tryz.underlying22 info_counter rfl (by decide) (.slice a5 len c5) (C.map iiC) (by simp [Act.eval, Act.put]) (by first | exact hO5 | exact hO5.alloc _ | exact (hO5.alloc _).alloc _) _ 1 1 [iiC (key, n)] (by decide) rfl (by rfl) (by simp [iiC]) (by first | exact n5 | exact news_alloc n5 (by have := hb5.size; simp at this; omega) _ | exact one_row _ (iiC (key, n)) _ _ (by simp) | exact news_alloc (one_row _ (iiC (key, n)) _ _ (by simp)) (by simp) _) (by simp [iiC, Value.oneCell']) (by rw [List.length_map, HL.out]; omega) (by decide) (by first | exact hs5 | (simp; omega)) ?_
           intro g6 c6 w6 hO6 hg6
           have hb6 : Below v7.heap.size v7 w6 := (by first | exact hO5.under hbw5 (Nat.le_refl _) hs5 hg6 | exact (hO5.alloc _).under (hbw5.alloc hs5 _) (Nat.le_refl _) (by simp; omega) hg6 | exact ((hO5.alloc _).alloc _).under ((hbw5.alloc hs5 _).alloc (by simp; omega) _) (Nat.le_refl _) (by simp; omega) hg6)
           have hs6 := hb6.size
           (first
             | have z6 := z5.grown hg6 (fun e => by have := ho5 _ e.symm; first | omega | (simp at this; done) | (simp at this; omega))
             | have z6 := (z5.alloc _).grown hg6 (fun e => by have := ho5 _ e.symm; first | omega | (simp at this; done) | (simp at this; omega))
             | have z6 := (ZB.new (v := v7) (W := w5) hs5).grown hg6 (fun e => by have := ho5 _ e.symm; first | omega | (simp at this; done) | (simp at this; omega))
             | have z6 := ((ZB.new (v := v7) (W := w5) hs5).alloc _).grown hg6 (fun e => by have := ho5 _ e.symm; first | omega | (simp at this; done) | (simp at this; omega))
             | have z6 := (ZB.new1 (v := v7) (W := w5) _ hs5).grown hg6 (fun e => by have := ho5 _ e.symm; first | omega | (simp at this; done) | (simp at this; omega))
             | skip)
           obtain ⟨g0, g1, g2⟩ := (SF.out.below hb6).cells
           simp only [List.length_map] at hO6 ⊢
           rw [HL.out] at hO6 ⊢)
        | (go_at_call 10
           rw [show C.map iiC ++ [iiC (key, n)] = (C ++ [(key, n)]).map iiC from by rw [List.map_append]; rfl] at hO6
           refine (HCO.out _ _ _ (by first | exact hO6.tab_of | exact (hO6.alloc _).tab_of)).mono ?_
           rintro e w8 ⟨MB8, rfl, hMB8, hM8, hb8⟩
           have hbw8 : Below v7.heap.size v7 w8 := (by first | exact below_on hb6 hb8 | exact below_on (hb6.alloc hs6 _) hb8)
           have hs8 := hbw8.size
           (first | have z8 := z6.below hb8 | have z8 := (ZB.new (v := v7) (W := w6) hs6).below hb8 | skip)
           obtain ⟨h0, h1, h2⟩ := (SF.out.below hbw8).cells)
        | (go_at_call 11
           refine (HFE.out _ _ (by first | exact hM8 | exact hM8.below ((Below.refl _ _).alloc (Nat.le_refl _) _))).mono ?_
           rintro e w9 ⟨v9, rfl, hO9, hb9⟩
           obtain ⟨a9, c9, rfl, hT9⟩ := own_ctrs hO9 rfl
           have hbj9 : Below v7.heap.size v7 w9 := (by first | exact below_on hbw8 hb9 | exact below_on (hbw8.alloc hs8 _) hb9)
           have hsj9 := hbj9.size
           have L9 := three_all (ZB.new (v := v7) (W := w9) hsj9).2
           obtain ⟨⟨x3, x4, x5⟩, y3, y4, y5⟩ := L9
           (first | (have z9 := And.intro (z8.below hb9) z8.lt) | (have z9 := And.intro ((ZB.new (v := v7) (W := w8) hs8).below hb9) (ZB.new (v := v7) (W := w8) hs8).lt) | skip)
           (first | (have Z9 := three_all z9.1.2; obtain ⟨⟨x0, x1, x2⟩, y0, y1, y2⟩ := Z9) | skip)
           obtain ⟨j0, j1, j2⟩ := (SF.out.below hbj9).cells))
      all_goals
        first
          | (have hOf := three_own hO9 z9.2 PK PL (.slice a9 PC.length c9)
             have hBf := three_below hbj9 z9.1.1 PK PL (.slice a9 PC.length c9)
             have hXf := three_set (x' := PK) (y' := PL) (v' := .slice a9 PC.length c9) z9.1.2)
          | (have hOf := late_own hO9 (.cells #[.int .i64 0, .int .i64 0, .slice none 0 0] 24) (.int .i64 PK) (.int .i64 PL) (.slice a9 PC.length c9)
             have hBf := three_below (b := w9.heap.size) (hbj9.alloc hsj9 (.cells #[.int .i64 0, .int .i64 0, .slice none 0 0] 24)) hsj9 PK PL (.slice a9 PC.length c9)
             have hXf := three_set (x' := PK) (y' := PL) (v' := .slice a9 PC.length c9) (ZB.new (v := v7) (W := w9) hsj9).2)
        go_wp2_with fail
        go_meet
        first
          | exact ⟨_, a9, PC.length, c9, rfl, rfl, Lib.hid ⟨hXf, hOf.tab_of⟩, Lib.hid hBf⟩
          | exact ⟨_, a9, PC.length, c9, rfl, rfl, Lib.hid ⟨(MapKept.heap_alloc w9 _).1, (hO9.alloc _).tab_of⟩, Lib.hid (hbj9.alloc hsj9 _)⟩
    case rest =>
      obtain ⟨i, a9, m9, c9, rfl, rfl, FZ, HBf⟩ := hcut
      have SYF := Lib.hid (SY.out.below HBf.out)
      have HBF := Lib.hid (below_on HB7.out HBf.out)
      obtain ⟨b0, b1, b2⟩ := SYF.out.cells
      obtain ⟨b3, b4, b5⟩ := FZ.out.cells
      go_wp2_with fail
      refine (HSA.out _ _ _ _ FZ.out.2 SYF.out).mono ?_
      rintro e wf ⟨rfl, hbf⟩
      have HBE := Lib.hid (below_on HBF.out hbf)
      clear hbf
      go_wp2
      go_ret
      exact ⟨rfl, HBE.out⟩

set_option maxRecDepth 100000 in
theorem lifted (os : Os) (started : os.Started) (H : Type) (enc : TypeId × Value → H) :
    ReturnsInHanded {} Tryz.checked os 3 .any (Rows.fewSaysSpec.pre6 enc Tryz.prog Tryz.f3 Rows.fewSaysRow.domain false) (Rows.fewSaysSpec.post enc Tryz.prog Tryz.f3 false true false false) := by
  refine returnsInHanded_of_change_sized (C := Tryz.checked) own started (by kernel_rfl) Tryz.func3
    (ChangeSpec.witness6 (enc := enc) (C := Tryz.checked) false ⟨#[], #[.agg #[.int .i64 0, .int .i64 0, .slice none 0 0], .int .i64 0, .int .i64 0], []⟩ 8 (by kernel_rfl) (by kernel_rfl) (by kernel_rfl) (by kernel_rfl)) ?_
  intro W base args ds gs before hval0 hW hcnd hsz0 _
  have hval : ∀ (j : Nat) t v, Tryz.f3.params[j]? = some t → args[j]? = some v → Value.okWide Tryz.prog W .any base t v := hval0
  have hW' := hW
  obtain ⟨p, q, hA0, hV, rfl, hfz, hnd⟩ := hW
  have hA : DataW.TrodAll enc Tryz.prog W 0 (fun _ => true) true Tryz.f3.params.toList args.toList ds p := hA0
  have hsz : (DataW.weightsEach Tryz.prog (Tryz.f3.params.toList ++ Rows.fewSaysSpec.plain.varTypes Tryz.prog) (ds ++ gs)).all (· ≤ reachBytes) = true := hsz0
  rw [Tryz.params3] at hA hval hsz
  obtain ⟨v0, vs0, d0, ds0, p0, q0, hargs, rfl, rfl, h0, r0⟩ := trodAll_cons hA
  obtain ⟨v1, vs1, d1, ds1, p1, q1, rfl, rfl, rfl, h1, r1⟩ := trodAll_cons r0
  obtain ⟨v2, vs2, d2, ds2, p2, q2, rfl, rfl, rfl, h2, r2⟩ := trodAll_cons r1
  obtain ⟨rfl, rfl, rfl⟩ := trodAll_nil r2
  obtain rfl : args = #[v0, v1, v2] := by cases args; simp_all
  obtain ⟨rfl, rfl⟩ := trodVars_none hV
  have k0 := h0
  have L0 := light_of hsz (j := 0) (t := 24) (d := d0) rfl rfl
  have lt0 : ∀ x ∈ p0, x.block < W.heap.size := by obtain ⟨m, hm⟩ := k0; exact DataW.trod_lt m _ _ _ hm
  obtain ⟨cs0, rfl, hsz0⟩ := okWide_struct Tryz.underlying24 (hval 0 24 v0 rfl rfl)
  obtain ⟨n0, f0⟩ := trod_agg_of h0
  obtain ⟨c0_0, c0_1, c0_2, _, _, _, _, _, _, hcs0, g0_0, g0_1, g0_2⟩ := struct3 Tryz.underlying24 (by kernel_rfl) (by kernel_rfl) f0 L0
  obtain ⟨x0_0, e0_0, _, w0_0⟩ := DataW.trod_int Tryz.underlying3 g0_0.1
  obtain ⟨x0_1, e0_1, _, w0_1⟩ := DataW.trod_int Tryz.underlying3 g0_1.1
  obtain ⟨x0_2, e0_2, t0_2, b0_2, o0_2⟩ := el_slice (w := W) (k := 2) iiC wfII (by decide) Tryz.underlying22 (by kernel_rfl) (el_ii Tryz.underlying37 (by kernel_rfl) (by kernel_rfl) Tryz.underlying3 Tryz.underlying3) (B := 16) (by kernel_rfl) _ _ _ g0_2.1 g0_2.2
  simp only [slC, List.cons.injEq, and_true] at e0_0 e0_1 e0_2
  subst e0_0 e0_1 e0_2
  obtain rfl : cs0 = #[.int .i64 x0_0, .int .i64 x0_1, .slice x0_2.a x0_2.len x0_2.cap] := Array.toList_inj.1 hcs0
  have k1 := h1
  have L1 := light_of hsz (j := 1) (t := 3) (d := d1) rfl rfl
  have lt1 : ∀ x ∈ p1, x.block < W.heap.size := by obtain ⟨m, hm⟩ := k1; exact DataW.trod_lt m _ _ _ hm
  obtain ⟨x1, rfl, rfl, rfl, w1⟩ := open_int Tryz.underlying3 (hval 1 3 v1 rfl rfl) h1
  have k2 := h2
  have L2 := light_of hsz (j := 2) (t := 3) (d := d2) rfl rfl
  have lt2 : ∀ x ∈ p2, x.block < W.heap.size := by obtain ⟨m, hm⟩ := k2; exact DataW.trod_lt m _ _ _ hm
  obtain ⟨x2, rfl, rfl, rfl, w2⟩ := open_int Tryz.underlying3 (hval 2 3 v2 rfl rfl) h2
  clear hA0 hval0
  refine (walk x0_0 x0_1 x0_2 x1 x2 W w0_0 w0_1 t0_2 b0_2 o0_2 w1 w2).mono fun e W' ⟨he, hg⟩ => ?_
  subst he
  exact ⟨_, rfl, _, _, _, [], _, [], hW', trodAll_mk1 (shut_bool Tryz.underlying4 _), (trodAll_cons_mk (Below.trod laidOut (by kernel_rfl) (of_decide_eq_true (by kernel_rfl)) k0 hg lt0) (trodAll_cons_mk (Below.trod laidOut (by kernel_rfl) (of_decide_eq_true (by kernel_rfl)) k1 hg lt1) (trodAll_cons_mk (Below.trod laidOut (by kernel_rfl) (of_decide_eq_true (by kernel_rfl)) k2 hg lt2) trodAll_mk0))), rfl, hg.frame _, fun h => by cases h⟩

theorem over : Rows.fewSaysRow.holds Tryz.pinned (OpenSpec.ofChange Rows.fewSaysSpec) :=
  OpenClaim.holds_of_wide 3 Tryz.f3 rfl rfl rfl rfl rfl rfl rfl ⟨rfl, rfl, rfl, rfl, rfl⟩ rfl rfl rfl rfl rfl (by kernel_rfl) Tryz.func3 (by kernel_rfl)
    (of_decide_eq_true (by kernel_rfl)) (by unfold Func.isWrapper; first | (rw [if_pos (by decide +kernel)]; kernel_rfl) | (rw [if_neg (by decide +kernel)]; exact ⟨rfl, rfl⟩))
    (fun os started H enc _ => lifted os started H enc)

/-- ████ THE STATEMENT ████ -/
theorem proved : Rows.FewSaysSaid :=
  over
#print axioms proved
end Go.Proofs.YtffgoekdjcempaaGreat.fewSays
