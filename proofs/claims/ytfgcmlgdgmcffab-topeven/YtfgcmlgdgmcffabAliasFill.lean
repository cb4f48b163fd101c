/- The contract of the program's alias.fill. -/
import Derived.Test.YtfgcmlgdgmcffabAliasWhole
import Derived.Test.YtfgcmlgdgmcffabWalkerMath
import Derived.Test.YtfgcmlgdgmcffabSubSlice
namespace Go.Proofs.Ytfgcmlgdgmcffab
open Go.ChangeShapes Go.WideShapes Go.ChangeAt Go.RowKit
open Walker

/-- indices as whole numbers -/
def iN (l : List Nat) : List Int := l.map (fun n : Nat => (n : Int))
theorem iN_append (l m : List Nat) : iN (l ++ m) = iN l ++ iN m := List.map_append ..
theorem iN_len (l : List Nat) : (iN l).length = l.length := List.length_map ..
theorem iN_last (l : List Nat) (c : Nat) : (iN (l ++ [c]))[l.length]? = some (c : Int) := by
  rw [iN_append, List.getElem?_append_right (by rw [iN_len]; exact Nat.le_refl _), iN_len, Nat.sub_self]; rfl
theorem iN_pop (l : List Nat) (c : Nat) : (iN (l ++ [c])).take l.length = iN l := by
  rw [iN_append, List.take_append_of_le_length (by rw [iN_len]; exact Nat.le_refl _), List.take_of_length_le (by rw [iN_len]; exact Nat.le_refl _)]
abbrev sl (g n : Nat) : Value := .slice (some ⟨g, 0, none⟩) n n
/-- the table in its box X, its slices, the weights that are left, the two stacks: each apart from the others -/
structure Fil (w wr : World) (b X n O R T : Nat) (A : Int) (vl vh : Value) (own rest left low high : List Int) : Prop where
  many : Many wr b 3 [(.slice (some ⟨O, 0, none⟩) n n, own), (.slice (some ⟨R, 0, none⟩) n n, rest), (.slice (some ⟨T, 0, none⟩) n n, left), (vl, low), (vh, high)]
  box : wr.heap[X]? = some (.cells #[.int .i64 A, .slice (some ⟨O, 0, none⟩) n n, .slice (some ⟨R, 0, none⟩) n n] 72 (0, 0))
  xo : X ≠ O
  xr : X ≠ R
  xt : X ≠ T
  xl : vl.ownBlock ≠ some X
  xh : vh.ownBlock ≠ some X
  bel : Below b w wr
  big : b ≤ wr.heap.size
section
variable {w wr : World} {b X n O R T : Nat} {A : Int} {vl vh : Value} {own rest left low high : List Int}
theorem Fil.oOwn (h : Fil w wr b X n O R T A vl vh own rest left low high) : Own wr b 3 1 (.slice (some ⟨O, 0, none⟩) n n) (own.map iC) := h.many.at (by simp)
theorem Fil.oRest (h : Fil w wr b X n O R T A vl vh own rest left low high) : Own wr b 3 1 (.slice (some ⟨R, 0, none⟩) n n) (rest.map iC) := h.many.own (_, rest) (List.mem_cons_of_mem _ (List.mem_cons_self ..))
theorem Fil.oLeft (h : Fil w wr b X n O R T A vl vh own rest left low high) : Own wr b 3 1 (.slice (some ⟨T, 0, none⟩) n n) (left.map iC) := h.many.own (_, left) (List.mem_cons_of_mem _ (List.mem_cons_of_mem _ (List.mem_cons_self ..)))
theorem Fil.oLow (h : Fil w wr b X n O R T A vl vh own rest left low high) : Own wr b 3 1 vl (low.map iC) := h.many.own (_, low) (List.mem_cons_of_mem _ (List.mem_cons_of_mem _ (List.mem_cons_of_mem _ (List.mem_cons_self ..))))
theorem Fil.oHigh (h : Fil w wr b X n O R T A vl vh own rest left low high) : Own wr b 3 1 vh (high.map iC) := h.many.own (_, high) (List.mem_cons_of_mem _ (List.mem_cons_of_mem _ (List.mem_cons_of_mem _ (List.mem_cons_of_mem _ (List.mem_cons_self ..)))))
theorem Fil.drew (h : Fil w wr b X n O R T A vl vh own rest left low high) : Fil w wr.drew b X n O R T A vl vh own rest left low high := ⟨h.many.drew, h.box, h.xo, h.xr, h.xt, h.xl, h.xh, h.bel.drew, h.big⟩
theorem Fil.setO (h : Fil w wr b X n O R T A vl vh own rest left low high) {i : Nat} {y : Int} (hy : own[i]? = some y) (z : Int) : Fil w (wr.setCell ⟨O, i, none⟩ (.int .i64 z)) b X n O R T A vl vh (own.set i z) rest left low high :=
  ⟨Many.set (A := []) h.many hy z, by rw [Below.heap_setCell _ _ _ _ h.xo]; exact h.box, h.xo, h.xr, h.xt, h.xl, h.xh, h.bel.setCell (p := ⟨O, i, none⟩) (h.oOwn.own.lt O rfl).1 _, by have := h.big; simpa [World.setCell] using this⟩
theorem Fil.setR (h : Fil w wr b X n O R T A vl vh own rest left low high) {i : Nat} {y : Int} (hy : rest[i]? = some y) (z : Int) : Fil w (wr.setCell ⟨R, i, none⟩ (.int .i64 z)) b X n O R T A vl vh own (rest.set i z) left low high :=
  ⟨Many.set (A := [(.slice (some ⟨O, 0, none⟩) n n, own)]) h.many hy z, by rw [Below.heap_setCell _ _ _ _ h.xr]; exact h.box, h.xo, h.xr, h.xt, h.xl, h.xh, h.bel.setCell (p := ⟨R, i, none⟩) (h.oRest.own.lt R rfl).1 _, by have := h.big; simpa [World.setCell] using this⟩
theorem Fil.setT (h : Fil w wr b X n O R T A vl vh own rest left low high) {i : Nat} {y : Int} (hy : left[i]? = some y) (z : Int) : Fil w (wr.setCell ⟨T, i, none⟩ (.int .i64 z)) b X n O R T A vl vh own rest (left.set i z) low high :=
  ⟨Many.set (A := [(.slice (some ⟨O, 0, none⟩) n n, own), (.slice (some ⟨R, 0, none⟩) n n, rest)]) h.many hy z, by rw [Below.heap_setCell _ _ _ _ h.xt]; exact h.box, h.xo, h.xr, h.xt, h.xl, h.xh, h.bel.setCell (p := ⟨T, i, none⟩) (h.oLeft.own.lt T rfl).1 _, by have := h.big; simpa [World.setCell] using this⟩
theorem Fil.alloc (h : Fil w wr b X n O R T A vl vh own rest left low high) (o : Obj) : Fil w (wr.alloc o) b X n O R T A vl vh own rest left low high :=
  ⟨h.many.alloc o, by rw [Below.heap_alloc _ _ _ (Array.getElem?_eq_some_iff.1 h.box).1]; exact h.box, h.xo, h.xr, h.xt, h.xl, h.xh, h.bel.alloc h.big o, Nat.le_trans h.big (by simp)⟩
theorem pop_block (a : Option Addr) (n cap m : Nat) : (Value.slice a m cap).ownBlock = (Value.slice a n cap).ownBlock := by cases a <;> rfl
theorem Fil.popL {a : Option Addr} {k cap m : Nat} (h : Fil w wr b X n O R T A (.slice a k cap) vh own rest left low high) (hm : m ≤ k) : Fil w wr b X n O R T A (.slice a m cap) vh own rest left (low.take m) high :=
  ⟨Many.pop (A := [(.slice (some ⟨O, 0, none⟩) n n, own), (.slice (some ⟨R, 0, none⟩) n n, rest), (.slice (some ⟨T, 0, none⟩) n n, left)]) h.many hm, h.box, h.xo, h.xr, h.xt, by rw [pop_block a k cap m]; exact h.xl, h.xh, h.bel, h.big⟩
theorem Fil.popH {a : Option Addr} {k cap m : Nat} (h : Fil w wr b X n O R T A vl (.slice a k cap) own rest left low high) (hm : m ≤ k) : Fil w wr b X n O R T A vl (.slice a m cap) own rest left low (high.take m) :=
  ⟨Many.pop (A := [(.slice (some ⟨O, 0, none⟩) n n, own), (.slice (some ⟨R, 0, none⟩) n n, rest), (.slice (some ⟨T, 0, none⟩) n n, left), (vl, low)]) h.many hm, h.box, h.xo, h.xr, h.xt, h.xl, by rw [pop_block a k cap m]; exact h.xh, h.bel, h.big⟩
theorem grown_box {o o' : Obj} {v v' : Value} {w1 : World} (hX : wr.heap[X]? = some o') (hx : v.ownBlock ≠ some X) (hg : (wr.alloc o).grownBy w1 v.ownBlock) (hv : v'.ownBlock = v.ownBlock ∨ v'.ownBlock = some (wr.alloc o).heap.size) : w1.heap[X]? = some o' ∧ v'.ownBlock ≠ some X := by
  have hlt : X < wr.heap.size := (Array.getElem?_eq_some_iff.1 hX).1
  refine ⟨?_, ?_⟩
  · rw [hg.block X (by simp; omega) (fun e => hx e.symm), Below.heap_alloc _ _ _ hlt]; exact hX
  · rcases hv with h | h
    · rw [h]; exact hx
    · rw [h]
      intro e
      have : (wr.alloc o).heap.size = X := Option.some.inj e
      simp at this
      omega
theorem Fil.pushL (h : Fil w wr b X n O R T A vl vh own rest left low high) {o : Obj} {w1 : World} {v' : Value} {L' : List Int} (hO : Own w1 b 3 1 v' (L'.map iC)) (hg : (wr.alloc o).grownBy w1 vl.ownBlock) (hv : v'.ownBlock = vl.ownBlock ∨ v'.ownBlock = some (wr.alloc o).heap.size) :
    Fil w w1 b X n O R T A v' vh own rest left L' high :=
  ⟨Many.grow (A := [(.slice (some ⟨O, 0, none⟩) n n, own), (.slice (some ⟨R, 0, none⟩) n n, rest), (.slice (some ⟨T, 0, none⟩) n n, left)]) (h.many.alloc o) hO hg hv, (grown_box h.box h.xl hg hv).1, h.xo, h.xr, h.xt, (grown_box h.box h.xl hg hv).2, h.xh,
    (h.bel.alloc h.big o).grown hg (Nat.le_trans h.big (by simp)) (fun k hk => (h.oLow.own.lt k hk).1), Nat.le_trans h.big (Nat.le_trans (by simp) hg.size)⟩
theorem Fil.pushH (h : Fil w wr b X n O R T A vl vh own rest left low high) {o : Obj} {w1 : World} {v' : Value} {L' : List Int} (hO : Own w1 b 3 1 v' (L'.map iC)) (hg : (wr.alloc o).grownBy w1 vh.ownBlock) (hv : v'.ownBlock = vh.ownBlock ∨ v'.ownBlock = some (wr.alloc o).heap.size) :
    Fil w w1 b X n O R T A vl v' own rest left low L' :=
  ⟨Many.grow (A := [(.slice (some ⟨O, 0, none⟩) n n, own), (.slice (some ⟨R, 0, none⟩) n n, rest), (.slice (some ⟨T, 0, none⟩) n n, left), (vl, low)]) (h.many.alloc o) hO hg hv, (grown_box h.box h.xh hg hv).1, h.xo, h.xr, h.xt, h.xl, (grown_box h.box h.xh hg hv).2,
    (h.bel.alloc h.big o).grown hg (Nat.le_trans h.big (by simp)) (fun k hk => (h.oHigh.own.lt k hk).1), Nat.le_trans h.big (Nat.le_trans (by simp) hg.size)⟩
end
theorem spot_of {w : World} {base : Nat} {e : TypeId} {v : Value} {L : List Int} (h : Own w base e 1 v (L.map iC)) (hl : 0 < L.length) : ∃ g cap, v = .slice (some ⟨g, 0, none⟩) L.length cap := by
  rcases h.own.2 with ⟨_, h0'⟩ | ⟨g', cap', cur, h0, _⟩
  · rw [List.length_map] at h0'; omega
  · rw [List.length_map] at h0
    exact ⟨g', cap', h0⟩
theorem size_int' (w : World) : (sizeOf 3).run Try.prog w = .ok 1 w := by kernel_rfl
theorem elem_int' : Try.prog.elem 26 = 3 := by kernel_rfl

set_option maxRecDepth 100000 in
set_option maxHeartbeats 2000000 in
theorem fill_any (l : List Int) (A : Int) (hA : A ≤ 40000000000000) (h40 : l.length ≤ 40) (s0 : St) (b O R T : Nat) (vl vh : Value) (w : World) (hI : Inv l A s0) (hb : b ≤ w.heap.size)
    (Y : Nat) (hG : Fil w w b Y l.length O R T A vl vh s0.own s0.rest s0.left (iN s0.low) (iN s0.high)) :
    Calls Try.prog 53 #[.agg #[.int .i64 A, .slice (some ⟨O, 0, none⟩) l.length l.length, .slice (some ⟨R, 0, none⟩) l.length l.length], .slice (some ⟨T, 0, none⟩) l.length l.length, vl, vh] w fun e w' => e = .returned (.tuple #[]) ∧
      ∃ vl' vh' left low high, Fil w w' b Y l.length O R T A vl' vh' (fillN A s0.act.length s0).own (fillN A s0.act.length s0).rest left low high := by
  obtain ⟨n, hn⟩ : ∃ n, l.length = n := ⟨_, rfl⟩
  have HNL := Lib.hid hn
  have hn40 : n ≤ 40 := by omega
  have HF0 : Hid (Fil w (w.alloc (.cells #[.int .i64 A, .slice (some ⟨O, 0, none⟩) n n, .slice (some ⟨R, 0, none⟩) n n] 72)) b w.heap.size n O R T A vl vh s0.own s0.rest s0.left (iN s0.low) (iN s0.high)) := by
    have hM := hG.many
    rw [hn] at hM
    have lt : ∀ p ∈ [((Value.slice (some ⟨O, 0, none⟩) n n), s0.own), (.slice (some ⟨R, 0, none⟩) n n, s0.rest), (.slice (some ⟨T, 0, none⟩) n n, s0.left), (vl, iN s0.low), (vh, iN s0.high)], p.1.ownBlock ≠ some w.heap.size := fun p hp e => by
      have := ((hM.own p hp).own.lt _ e).2
      omega
    exact Lib.hid ⟨hM.alloc _, (MapKept.heap_alloc w _).1, fun e => lt _ (List.mem_cons_self ..) (by rw [e]; rfl), fun e => lt _ (List.mem_cons_of_mem _ (List.mem_cons_self ..)) (by rw [e]; rfl), fun e => lt _ (List.mem_cons_of_mem _ (List.mem_cons_of_mem _ (List.mem_cons_self ..))) (by rw [e]; rfl),
      lt _ (List.mem_cons_of_mem _ (List.mem_cons_of_mem _ (List.mem_cons_of_mem _ (List.mem_cons_self ..)))), lt _ (List.mem_cons_of_mem _ (List.mem_cons_of_mem _ (List.mem_cons_of_mem _ (List.mem_cons_of_mem _ (List.mem_cons_self ..))))), (Below.refl _ _).alloc hb _, Nat.le_trans hb (by simp)⟩
  have HI0 := Lib.hid hI
  rw [hn] at hG ⊢
  have HG0 := Lib.hid (hG.alloc (.cells #[.int .i64 A, .slice (some ⟨O, 0, none⟩) n n, .slice (some ⟨R, 0, none⟩) n n] 72))
  clear hI hG hn
  obtain ⟨f, hf⟩ : ∃ f, s0.act.length = f := ⟨_, rfl⟩
  obtain ⟨F, hF⟩ : ∃ F, fillN A f s0 = F := ⟨_, rfl⟩
  rw [hf, hF]
  have HE0 : Hid (s0.act.length ≤ f ∧ fillN A f s0 = F) := Lib.hid ⟨Nat.le_of_eq hf, hF⟩
  clear hf hF
  go_enter Try.func53, Try.ntmps53
  go_wp2_with fail
  generalize hW0 : w.alloc (.cells #[.int .i64 A, .slice (some ⟨O, 0, none⟩) n n, .slice (some ⟨R, 0, none⟩) n n] 72) = W0 at *
  clear hW0
  generalize hXX : w.heap.size = X at *
  clear hXX
  go_loopg [2, 3] f (fun g vl vh wr => ∃ (s : St) (m : Nat), Hid (m = g) ∧ Hid (Inv l A s) ∧ Hid (s.act.length ≤ m ∧ fillN A m s = F) ∧ Hid (Fil w wr b X n O R T A vl vh s.own s.rest s.left (iN s.low) (iN s.high)) ∧ Hid (Fil w wr b Y n O R T A vl vh s.own s.rest s.left (iN s.low) (iN s.high)))
  case atStart => exact ⟨s0, f, Lib.hid rfl, HI0, HE0, HF0, HG0⟩
  case round =>
    clear HF0 HE0 HI0 HG0
    obtain ⟨s, m, HMG, HI, HE, HF, HG⟩ := hrel
    by_cases hl0 : s.low = []
    · have h1 : F = s := by rw [← HE.out.2]; exact fillN_done hl0 m
      obtain ⟨a2, cap2, hu2, hT2⟩ := HF.out.oLow.tab
      have hz : ((iN s.low).map iC).length = 0 := by rw [hl0]; rfl
      rw [hz] at hu2
      have HFm := HG
      rw [← h1] at HFm
      subst hu2
      clear h1 hz hT2 hl0 HI HE HF HG
      go_wp2
      first | go_end0 | go_ret
      exact ⟨rfl, _, _, _, _, _, HFm.out⟩
    · obtain ⟨lw, c, h1⟩ : ∃ lw c, s.low = lw ++ [c] := ⟨_, _, (List.dropLast_concat_getLast hl0).symm⟩
      obtain ⟨hg, q, h2⟩ : ∃ hg q, s.high = hg ++ [q] := ⟨_, _, (List.dropLast_concat_getLast (HI.out.giver hl0)).symm⟩
      obtain ⟨m', rfl⟩ : ∃ m', m = m' + 1 := ⟨m - 1, by have := HE.out.1; have h3 := (next_perm (A := A) h1 h2).length_eq; rw [List.length_cons] at h3; omega⟩
      have hIn := HI.out.next h1 h2
      have hEn : (next A s c q lw hg).act.length ≤ m' ∧ fillN A m' (next A s c q lw hg) = F := by
        have hp := (next_perm (A := A) h1 h2).length_eq
        have h3 := HE.out
        rw [fillN_step h1 h2] at h3
        rw [List.length_cons] at hp
        exact ⟨by omega, h3.2⟩
      have hcl : c ∈ s.low := by rw [h1]; simp
      have hqh : q ∈ s.high := by rw [h2]; simp
      have hc : c < n := by have := HI.out.lt c (List.mem_append_left _ hcl); rw [HNL.out] at this; exact this
      have hq : q < n := by have := HI.out.lt q (List.mem_append_right _ hqh); rw [HNL.out] at this; exact this
      have bc := HI.out.low c hcl
      have bq := HI.out.high q hqh
      have hcq : c ≠ q := fun e => by
        have := HI.out.nd
        unfold St.act at this
        rw [List.nodup_append] at this
        exact this.2.2 c hcl c (e ▸ hqh) rfl
      have gTc : s.left[c]? = some (g s.left c) := get_g (by rw [HI.out.ll, HNL.out]; exact hc)
      have gTq : s.left[q]? = some (g s.left q) := get_g (by rw [HI.out.ll, HNL.out]; exact hq)
      obtain ⟨oc, gOc⟩ : ∃ y, s.own[c]? = some y := ⟨_, get_g (by rw [HI.out.lo, HNL.out]; exact hc)⟩
      obtain ⟨rc, gRc⟩ : ∃ y, s.rest[c]? = some y := ⟨_, get_g (by rw [HI.out.lr, HNL.out]; exact hc)⟩
      have hact := HI.out.low_le h1 h2
      rw [HNL.out] at hact
      have enx : next A s c q lw hg = ⟨s.own.set c (g s.left c), s.rest.set c (q : Int), s.left.set q (g s.left q - (A - g s.left c)), if g s.left q - (A - g s.left c) < A then lw ++ [q] else lw, if g s.left q - (A - g s.left c) < A then hg else hg ++ [q]⟩ := rfl
      rw [enx] at hIn hEn
      clear enx
      obtain ⟨lc, hlc⟩ : ∃ lc, g s.left c = lc := ⟨_, rfl⟩
      obtain ⟨lq, hlq⟩ : ∃ lq, g s.left q = lq := ⟨_, rfl⟩
      rw [hlc] at gTc bc
      rw [hlq] at gTq bq
      rw [hlc, hlq] at hIn hEn
      obtain ⟨x, hx⟩ : ∃ x, lq - (A - lc) = x := ⟨_, rfl⟩
      rw [hx] at hIn hEn
      have HXE := Lib.hid hx
      have bc1 := bc.1
      have bc2 := bc.2
      have bq1 := bq.1
      have bq2 := bq.2
      obtain ⟨kl, hkl⟩ : ∃ kl, lw.length = kl := ⟨_, rfl⟩
      obtain ⟨kh, hkh⟩ : ∃ kh, hg.length = kh := ⟨_, rfl⟩
      obtain ⟨ml, hml⟩ : ∃ ml, (iN s.low).length = ml := ⟨_, rfl⟩
      obtain ⟨mh, hmh⟩ : ∃ mh, (iN s.high).length = mh := ⟨_, rfl⟩
      have eml : ml = kl + 1 := by rw [← hml, iN_len, h1, List.length_append, hkl]; rfl
      have emh : mh = kh + 1 := by rw [← hmh, iN_len, h2, List.length_append, hkh]; rfl
      have hml1 : (ml : Int) - 1 = (kl : Int) := by omega
      have hmh1 : (mh : Int) - 1 = (kh : Int) := by omega
      have hml40 : ml ≤ 40 := by omega
      have hmh40 : mh ≤ 40 := by omega
      have hml0 : 0 < ml := by omega
      have hmh0 : 0 < mh := by omega
      have hkl1 : kl < ml := by omega
      have hkh1 : kh < mh := by omega
      obtain ⟨gl, capl, hvl⟩ := spot_of HF.out.oLow (by rw [hml]; exact hml0)
      obtain ⟨gh, caph, hvh⟩ := spot_of HF.out.oHigh (by rw [hmh]; exact hmh0)
      rw [hml] at hvl
      rw [hmh] at hvh
      subst hvl hvh
      have gl1 := iN_last lw c
      have gh1 := iN_last hg q
      have pl := iN_pop lw c
      have ph := iN_pop hg q
      rw [← h1, hkl] at gl1 pl
      rw [← h2, hkh] at gh1 ph
      obtain ⟨cl, fl, _, _⟩ := HF.out.oLow.at1 (map_get gl1)
      obtain ⟨ch, fh, _, _⟩ := HF.out.oHigh.at1 (map_get gh1)
      obtain ⟨cT, fT, _, _⟩ := HF.out.oLeft.at1 (map_get gTc)
      obtain ⟨cO, fO, _, _⟩ := HF.out.oOwn.at1 (map_get gOc)
      obtain ⟨⟨a0, a1, a2⟩, _, _, _⟩ := whole_cells HF.out.box
      have Fp := HF.out.popL (m := kl) (Nat.le_of_lt hkl1)
      rw [pl] at Fp
      have F1 := Lib.hid (Fp.setO gOc lc).drew
      have F2 := Lib.hid (F1.out.setR gRc (q : Int))
      have F3 := Lib.hid (F2.out.setT gTq x).drew
      have Gp := HG.out.popL (m := kl) (Nat.le_of_lt hkl1)
      rw [pl] at Gp
      have G1 := Lib.hid (Gp.setO gOc lc).drew
      have G2 := Lib.hid (G1.out.setR gRc (q : Int))
      have G3 := Lib.hid (G2.out.setT gTq x).drew
      have HRC := Lib.hid (map_get (f := iC) gRc)
      have HTC := Lib.hid (map_get (f := iC) gTc)
      have HTQ := Lib.hid (map_get (f := iC) gTq)
      have HTX : Hid (((s.left.set q x).map iC)[q]? = some (iC x)) := Lib.hid (map_get (List.getElem?_set_self (List.getElem?_eq_some_iff.1 gTq).1))
      have HPH := Lib.hid ph
      have HHI : Hid (iN s.high = iN (hg ++ [q])) := Lib.hid (by rw [h2])
      have rL := run_upto 26 3 1 Try.underlying26 elem_int' size_int' (some ⟨gl, 0, none⟩) ml capl kl (by have := HF.out.oLow.tab_of.hle; omega)
      have rH := run_upto 26 3 1 Try.underlying26 elem_int' size_int' (some ⟨gh, 0, none⟩) mh caph kh (by have := HF.out.oHigh.tab_of.hle; omega)
      have HKL : Hid ((iN lw).length = kl) := Lib.hid (by rw [iN_len]; exact hkl)
      have HKH := Lib.hid hkh1
      clear h1 h2 hl0 hcl hqh hcq bc bq gTc gTq gOc gRc hact hlc hlq hx hml hmh eml emh hkl hkh gl1 gh1 pl ph Fp Gp HI HE HF HG
      by_cases hxA : x < A
      · rw [if_pos hxA, if_pos hxA] at hIn
        rw [if_pos hxA, if_pos hxA] at hEn
        have HIn := Lib.hid hIn
        have HEn := Lib.hid hEn
        clear hIn hEn
        go_wp2_with fail
        go_region
        generalize hW1 : (wr.setCell ⟨O, c, none⟩ (.int .i64 lc)).drew = W1 at *
        clear hW1 a0 a1 a2 cl fl ch fh cT fT cO fO
        obtain ⟨⟨a0, a1, a2⟩, _, _, _⟩ := whole_cells F1.out.box
        obtain ⟨cR, fR, _, _⟩ := F1.out.oRest.at1 HRC.out
        go_wp2_with fail
        generalize hW2 : W1.setCell ⟨R, c, none⟩ (.int .i64 (q : Nat)) = W2 at *
        clear hW2 a0 a1 a2 cR fR
        obtain ⟨⟨a0, a1, a2⟩, _, _, _⟩ := whole_cells F2.out.box
        obtain ⟨cT, fT, _, _⟩ := F2.out.oLeft.at1 HTC.out
        obtain ⟨cQ, fQ, _, _⟩ := F2.out.oLeft.at1 HTQ.out
        go_region
        rw [HXE.out]
        generalize hW3 : (W2.setCell ⟨T, q, none⟩ (.int .i64 x)).drew = W3 at *
        clear hW3 a0 a1 a2 cT fT cQ fQ
        obtain ⟨⟨a0, a1, a2⟩, _, _, _⟩ := whole_cells F3.out.box
        obtain ⟨cQ, fQ, _, _⟩ := F3.out.oLeft.at1 HTX.out
        go_wp2_with fail
        go_region
        have F4 := Lib.hid (F3.out.drew.popH (m := kh) (Nat.le_of_lt HKH.out))
        rw [HPH.out] at F4
        have G4 := Lib.hid (G3.out.drew.popH (m := kh) (Nat.le_of_lt HKH.out))
        rw [HPH.out] at G4
        generalize hW4 : W3.drew = W4 at *
        clear hW4 a0 a1 a2 cQ fQ
        go_wp2_with (at_builtin; refine wpList_append_rows_at _ rfl _ _ 26 rfl b 3 _ 1 8 Try.underlying26 info_int rfl (by decide) _ ((iN lw).map iC) rfl (F4.out.oLow.alloc _) ⟨W4.heap.size, 0, none⟩ 1 1 [iC (q : Int)] rfl rfl (by simp [iC]) (one_row W4 (iC (q : Int)) 3 _ rfl) (by simp [iC, Value.oneCell']) (by rw [List.length_map, HKL.out]; omega) (by decide) (by have := F4.out.big; simp; omega) ?_; intro v6 w6 hO6 hg6 hv6)
        go_roundg m'
        case measure => have := HMG.out; omega
        case rel =>
          refine ⟨_, m', Lib.hid rfl, HIn, HEn, ?_, ?_⟩
          · have h6 := F4.out.pushL (L' := iN (lw ++ [q])) (by rw [iN_append, List.map_append]; exact hO6) hg6 hv6
            exact Lib.hid h6
          · have h6 := G4.out.pushL (L' := iN (lw ++ [q])) (by rw [iN_append, List.map_append]; exact hO6) hg6 hv6
            exact Lib.hid h6
      · rw [if_neg hxA, if_neg hxA] at hIn
        rw [if_neg hxA, if_neg hxA] at hEn
        have HIn := Lib.hid hIn
        have HEn := Lib.hid hEn
        have hxA' : A ≤ x := by omega
        clear hIn hEn hxA
        go_wp2_with fail
        go_region
        generalize hW1 : (wr.setCell ⟨O, c, none⟩ (.int .i64 lc)).drew = W1 at *
        clear hW1 a0 a1 a2 cl fl ch fh cT fT cO fO
        obtain ⟨⟨a0, a1, a2⟩, _, _, _⟩ := whole_cells F1.out.box
        obtain ⟨cR, fR, _, _⟩ := F1.out.oRest.at1 HRC.out
        go_wp2_with fail
        generalize hW2 : W1.setCell ⟨R, c, none⟩ (.int .i64 (q : Nat)) = W2 at *
        clear hW2 a0 a1 a2 cR fR
        obtain ⟨⟨a0, a1, a2⟩, _, _, _⟩ := whole_cells F2.out.box
        obtain ⟨cT, fT, _, _⟩ := F2.out.oLeft.at1 HTC.out
        obtain ⟨cQ, fQ, _, _⟩ := F2.out.oLeft.at1 HTQ.out
        go_region
        rw [HXE.out]
        generalize hW3 : (W2.setCell ⟨T, q, none⟩ (.int .i64 x)).drew = W3 at *
        clear hW3 a0 a1 a2 cT fT cQ fQ
        obtain ⟨⟨a0, a1, a2⟩, _, _, _⟩ := whole_cells F3.out.box
        obtain ⟨cQ, fQ, _, _⟩ := F3.out.oLeft.at1 HTX.out
        go_wp2_with fail
        go_region
        have F4 := Lib.hid F3.out.drew
        have G4 := Lib.hid G3.out.drew
        generalize hW4 : W3.drew = W4 at *
        clear hW4 a0 a1 a2 cQ fQ
        go_wp2_with fail
        go_roundg m'
        case measure => have := HMG.out; omega
        case rel => exact ⟨_, m', Lib.hid rfl, HIn, HEn, by rw [← HHI.out]; exact F4, by rw [← HHI.out]; exact G4⟩
end Go.Proofs.Ytfgcmlgdgmcffab
