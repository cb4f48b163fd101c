/- The contract of EstSpreads' closure: draws of their own are laid, and the square of how far the estimate is from the total is added. -/
import Derived.Test.YtfocmnjkoominaaEightMath
import Derived.Test.YtfocmnjkoominaaEstSum
import Derived.Test.YtfocmnjkoominaaEstLits
import Derived.Test.YtfocmnjkoominaaWorth
import Derived.Deep.LoopGhost
namespace Go.Proofs.Ytfocmnjkoominaa
open Go.ChangeShapes Go.WideShapes Go.ChangeAt Go.RowKit
open Est Span

theorem cell_keeps {w : World} {b : Nat} {u v : Value} {t : TypeId} (h : w.heap[b]? = some (.cells #[u] t (0, 0))) : (w.setCell ⟨b, 0, none⟩ v).heap[b]? = some (.cells #[v] t (0, 0)) :=
  heap_setCell_same w _ 0 _ _ v h
/-- what EstSpreads' closure finds: values, levels and bounds of the call's own, the total and the sum of squares in boxes -/
structure SI (w W : World) (b pv pl pr X : Nat) (vp vq vb : Value) (P Q B : List Int) (S F : Int) : Prop where
  cv : W.heap[pv]? = some (.cells #[vp] 22 (0, 0))
  cl : W.heap[pl]? = some (.cells #[vq] 22 (0, 0))
  cr : W.heap[pr]? = some (.cells #[.int .i64 S] 3 (0, 0))
  cf : W.heap[X]? = some (.cells #[.int .i64 F] 3 (0, 0))
  ov : Own W w.heap.size 3 1 vp (P.map iC)
  oq : Own W w.heap.size 3 1 vq (Q.map iC)
  ob : Own W w.heap.size 3 1 vb (B.map iC)
  nv : ∀ g, vp.ownBlock = some g → g < b ∧ g ≠ X
  nq : ∀ g, vq.ownBlock = some g → g < b ∧ g ≠ X
  nb : ∀ g, vb.ownBlock = some g → g < b ∧ g ≠ X
  sz : b ≤ W.heap.size
  lt : pv < b ∧ pl < b ∧ pr < b ∧ X < b
  ne : pv ≠ X ∧ pl ≠ X ∧ pr ≠ X
  bel : Below w.heap.size w W
  lo : w.heap.size ≤ X
theorem own_off {v : Value} {row : Option Nat} {p : Nat → Prop} (h : ∀ g, v.ownBlock = some g → p g) (hr : ∀ j, row = some j → ¬ p j) : v.ownBlock = none ∨ v.ownBlock ≠ row := by
  cases e : v.ownBlock with
  | none => exact Or.inl rfl
  | some g => exact Or.inr (fun e2 => hr g e2.symm (h g e))
theorem SI.kept {w W W' : World} {b pv pl pr X : Nat} {vp vq vb : Value} {P Q B : List Int} {S F : Int} (h : SI w W b pv pl pr X vp vq vb P Q B S F) {row : Option Nat} (hg : W.grownBy W' row) (hr : ∀ j, row = some j → b ≤ j) : SI w W' b pv pl pr X vp vq vb P Q B S F := by
  have hk : ∀ {j : Nat} {o : Obj}, j < b → W.heap[j]? = some o → W'.heap[j]? = some o := fun {j o} hj ho => (hg.block j (Array.getElem?_eq_some_iff.1 ho).1 (fun e => by have := hr j e.symm; omega)).trans ho
  have hl := h.lt
  have hlo := h.lo
  have hsz := h.sz
  exact ⟨hk hl.1 h.cv, hk hl.2.1 h.cl, hk hl.2.2.1 h.cr, hk hl.2.2.2 h.cf,
    h.ov.keptBy hg (own_off h.nv (fun j hj hp => by have := hr j hj; omega)), h.oq.keptBy hg (own_off h.nq (fun j hj hp => by have := hr j hj; omega)), h.ob.keptBy hg (own_off h.nb (fun j hj hp => by have := hr j hj; omega)),
    h.nv, h.nq, h.nb, Nat.le_trans h.sz hg.size, h.lt, h.ne, h.bel.grown hg (by omega) (fun j hj => by have := hr j hj; omega), h.lo⟩
theorem SI.under {w W W' : World} {b pv pl pr X : Nat} {vp vq vb : Value} {P Q B : List Int} {S F : Int} (h : SI w W b pv pl pr X vp vq vb P Q B S F) (hb : Below W.heap.size W W') : SI w W' b pv pl pr X vp vq vb P Q B S F :=
  h.kept (row := none) ⟨hb.os, hb.tape, hb.output, hb.size, fun k hk _ => hb.block k hk⟩ (fun j hj => by cases hj)
theorem SI.put {w W : World} {b pv pl pr X : Nat} {vp vq vb : Value} {P Q B : List Int} {S F : Int} (h : SI w W b pv pl pr X vp vq vb P Q B S F) (G : Int) : SI w (W.setCell ⟨X, 0, none⟩ (.int .i64 G)) b pv pl pr X vp vq vb P Q B S G := by
  have hk : ∀ {j : Nat} {o : Obj}, j ≠ X → W.heap[j]? = some o → (W.setCell ⟨X, 0, none⟩ (.int .i64 G)).heap[j]? = some o := fun {j o} hj ho => (Below.heap_setCell W ⟨X, 0, none⟩ _ j hj).trans ho
  have hg := grown_cell W ⟨X, 0, none⟩ (.int .i64 G)
  exact ⟨hk h.ne.1 h.cv, hk h.ne.2.1 h.cl, hk h.ne.2.2 h.cr, cell_keeps h.cf,
    h.ov.keptBy hg (own_off h.nv (fun j hj hp => by cases hj; exact hp.2 rfl)), h.oq.keptBy hg (own_off h.nq (fun j hj hp => by cases hj; exact hp.2 rfl)), h.ob.keptBy hg (own_off h.nb (fun j hj hp => by cases hj; exact hp.2 rfl)),
    h.nv, h.nq, h.nb, Nat.le_trans h.sz hg.size, h.lt, h.ne, h.bel.setCell (p := ⟨X, 0, none⟩) h.lo _, h.lo⟩

/-- the t-th draws -/
def drawAt8 (t i : Nat) : Int := (Eight.dig t i : Int) * 9007199254740992
theorem drawAt8_bd (t i : Nat) : 0 ≤ drawAt8 t i ∧ drawAt8 t i < 72057594037927936 := by
  have := Eight.dig_lt t i
  unfold drawAt8
  omega

set_option maxRecDepth 100000 in
set_option maxHeartbeats 2000000 in
theorem spreadClo_any (w W : World) (b pv pl pr X n t : Nat) (vp vq vb : Value) (f g : Nat → Int) (B : List Int) (F : Int) (hn : n ≤ 3) (hf : ∀ i, -1000 ≤ f i ∧ f i ≤ 1000) (hg : ∀ i, 0 ≤ g i ∧ g i ≤ 3)
    (h : SI w W b pv pl pr X vp vq vb (listTo f n) (listTo g n) B (sumTo f n) F) (hF : 0 ≤ F ∧ F ≤ 1000000000000) (ad : Option Addr) (capd : Nat) (hd : Tab W ad n capd 1 ((Eight.vec n t).map iC)) :
    Calls Try.prog 23 #[.slice ad n capd, .pointer (some ⟨pv, 0, none⟩), .pointer (some ⟨pl, 0, none⟩), .pointer (some ⟨X, 0, none⟩), .pointer (some ⟨pr, 0, none⟩)] W fun e w' => e = .returned (.bool true) ∧ SI w w' b pv pl pr X vp vq vb (listTo f n) (listTo g n) B (sumTo f n) (F + (Eight.est f g n t - sumTo f n) * (Eight.est f g n t - sumTo f n)) ∧ W.grownBy w' (some X) := by
  obtain ⟨ap, cp, rfl, hTp⟩ := h.ov.tab
  obtain ⟨aq, cq, rfl, hTq⟩ := h.oq.tab
  rw [List.length_map, listTo_len] at hTp hTq
  rw [List.length_map, List.length_map, listTo_len, listTo_len] at h ⊢
  have HV := Lib.hid h
  have HTP := Lib.hid hTp
  have HTQ := Lib.hid hTq
  have HD := Lib.hid hd
  have hXs : X < W.heap.size := by have := h.lt; have := h.sz; omega
  have he := Eight.est_bd (t := t) hn hf hg
  have hs := Eight.total_bd hn hf
  have hq := Eight.sqr_bd (y := Eight.est f g n t - sumTo f n) (by omega) (by omega)
  have HC : Hid (∀ (W' : World) (a3 : Option Addr) (c3 : Nat), Below W.heap.size W W' → Tab W' a3 n c3 1 ((listTo (drawAt8 t) n).map iC) → Calls Try.prog 24 #[.slice ap n cp, .slice aq n cq, .slice a3 n c3] W' fun e w' => e = .returned (.tuple #[.int .i64 (Eight.est f g n t), .int .i64 0]) ∧ Below W'.heap.size W' w') := Lib.hid (fun W' a3 c3 hb h3 => by
    have C := sum_any ap aq a3 n cp n cq n c3 (listTo f n) (listTo g n) (listTo (drawAt8 t) n) W' (HTP.out.below hb) (HTQ.out.below hb) h3
    rw [sumE_listTo (by omega) (fun i _ => by have := hf i; omega) (fun i _ => by have := hg i; omega) (fun i _ => drawAt8_bd t i), sumR_listTo (B := 1000) (by omega) (by decide) (by decide) (fun i _ => hf i) (fun i _ => by have := hg i; omega) (fun i _ => drawAt8_bd t i)] at C
    exact C)
  have HDD := Lib.hid (fun i => Eight.dig_lt t i)
  generalize Eight.est f g n t = E at *
  generalize sumTo f n = S at *
  obtain ⟨e0, e1⟩ := he
  obtain ⟨s0, s1⟩ := hs
  obtain ⟨q0, q1⟩ := hq
  obtain ⟨f0, f1⟩ := hF
  clear h hTp hTq hd hf hg
  go_enter Try.func23, Try.ntmps23
  go_wp2_with fail
  go_loopg [7, 14] n (fun gh v i wr => ∃ k : Nat, k + gh = n ∧ i = .int .i64 k ∧ Hid (Own wr W.heap.size 3 1 v ((listTo (drawAt8 t) k).map iC)) ∧ Hid (Below W.heap.size W wr))
  case atStart => exact ⟨0, by omega, rfl, Lib.hid (Own.nil _ _ _ _), Lib.hid (Below.refl _ _)⟩
  case round =>
    obtain ⟨k, hk0, rfl, HO, HB⟩ := hrel
    have HJ := Lib.hid hk0
    have hk : k ≤ n := by omega
    clear hk0
    by_cases hlt : k < n
    · obtain ⟨b1, o1, ha, hbs, c9⟩ := HD.out.one HB.out (map_get (Eight.vec_get hlt))
      have hdd := HDD.out k
      have HN : Hid (listTo (drawAt8 t) (k + 1) = listTo (drawAt8 t) k ++ [(Eight.dig t k : Int) * 9007199254740992]) := Lib.hid (listTo_succ _ _)
      generalize Eight.dig t k = dd at *
      subst ha
      go_wp2_with (at_builtin; refine wpList_append_rows _ rfl _ _ 22 rfl W.heap.size 3 _ 1 8 Try.underlying22 info_int rfl (by decide) _ ((listTo (drawAt8 t) k).map iC) rfl (HO.out.alloc _) ⟨wr.heap.size, 0, none⟩ 1 1 [iC ((dd : Int) * 9007199254740992)] rfl rfl (by simp [iC]) (one_row wr (iC ((dd : Int) * 9007199254740992)) 3 _ rfl) (by simp [iC, Value.oneCell']) (by rw [List.length_map, listTo_len]; omega) (by decide) (Nat.le_trans HB.out.size (by simp)) ?_; intro v6 w6 hO6 hg6)
      go_roundg (n - (k + 1))
      case measure => have := HJ.out; omega
      case rel => exact ⟨k + 1, by omega, by go_num, by rw [HN.out, List.map_append]; exact Lib.hid hO6, Lib.hid ((HO.out.alloc (.cells (iC ((dd : Int) * 9007199254740992)).toArray 3)).under (HB.out.alloc HB.out.size _) (Nat.le_refl _) (Nat.le_trans HB.out.size (by simp)) hg6)⟩
    · obtain rfl : k = n := by omega
      obtain ⟨a3, c3, rfl, hT3⟩ := HO.out.tab
      rw [List.length_map, listTo_len] at hT3 ⊢
      have C := Lib.hid (HC.out wr a3 c3 HB.out hT3)
      have HV1 := Lib.hid (HV.out.under HB.out)
      have d0 := cell_blk (i := 0) HV1.out.cv rfl
      have d1 := cell_blk (i := 0) HV1.out.cl rfl
      clear hT3 HO HC
      go_wp2_with fail
      refine C.out.mono ?_
      rintro e w7 ⟨rfl, hb7⟩
      have HV2 := Lib.hid (HV1.out.under hb7)
      have HB7 := Lib.hid (below_on HB.out hb7)
      have HS := Lib.hid (HV2.out.put (F + (E - S) * (E - S)))
      clear d0 d1 C hb7 HV1 HB
      have d2 := cell_blk (i := 0) HV2.out.cf rfl
      have d3 := cell_blk (i := 0) HV2.out.cr rfl
      have g2 := frozen_blk (i := 0) HV2.out.cf
      go_wp2
      go_ret
      have hg9 : W.grownBy w7 (some X) := ⟨HB7.out.os, HB7.out.tape, HB7.out.output, HB7.out.size, fun j hj _ => HB7.out.block j hj⟩
      have hg8 := grown_cell w7 ⟨X, 0, none⟩ (.int .i64 (F + (E - S) * (E - S)))
      exact ⟨rfl, HS.out, ⟨hg8.os.trans hg9.os, hg8.tape.trans hg9.tape, hg8.output.trans hg9.output, Nat.le_trans hg9.size hg8.size, fun i hi hne => (hg8.block i (Nat.lt_of_lt_of_le hi hg9.size) hne).trans (hg9.block i hi hne)⟩⟩
end Go.Proofs.Ytfocmnjkoominaa
