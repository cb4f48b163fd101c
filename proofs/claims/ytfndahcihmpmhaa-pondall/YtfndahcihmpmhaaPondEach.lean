/- culkeep.each over PondAll's bounds with PondAll's closure: all draws, one behind the other; the set that each leaves is counted. -/
import Derived.Test.YtfndahcihmpmhaaPondClo
import Derived.Test.YtfndahcihmpmhaaOwnTwo
import Derived.BigQuiet
import Derived.Deep.LoopGhost
namespace Go.Proofs.Ytfndahcihmpmhaa
open Go.ChangeShapes Go.WideShapes Go.ChangeAt Go.RowKit
open PondMath

theorem bndL_len (k n : Nat) : (bndL k n).length = n := by simp [bndL]
theorem bndL_get {k n i : Nat} (h : i < n) : (bndL k n)[i]? = some (bnd k i : Int) := by simp [bndL, h]
theorem vec_nought (k n : Nat) : List.replicate n (0 : Int) = vec k n 0 := by
  apply List.ext_getElem?
  intro j
  by_cases hj : j < n
  · rw [vec_get hj]
    simp [hj, dig]
  · rw [List.getElem?_eq_none (by simp; omega), List.getElem?_eq_none (by rw [vec_len]; omega)]
theorem PInv.kept {wb w w' : World} {b ck cn k n t : Nat} {row : Option Nat} (h : PInv wb w b ck cn k n t) (hg : w.grownBy w' row) (hr : ∀ j, row = some j → b + 2 ≤ j) : PInv wb w' b ck cn k n t := by
  obtain ⟨h1, h2, h3, h4, h5, h6⟩ := h
  have hlm : b + 1 < w.heap.size := (Array.getElem?_eq_some_iff.1 h5).1
  exact ⟨h1, h2, h3, h4.grown hg (by omega) (fun j hj => by have := hr j hj; omega), (hg.block _ hlm (fun e => by have := hr _ e.symm; omega)).trans h5, h6.kept hg (fun e => by have := hr _ e.symm; omega)⟩
theorem PInv.under {wb w w' : World} {b ck cn k n t : Nat} (h : PInv wb w b ck cn k n t) (hb : Below w.heap.size w w') : PInv wb w' b ck cn k n t :=
  h.kept (row := none) ⟨hb.os, hb.tape, hb.output, hb.size, fun k hk _ => hb.block k hk⟩ (fun j hj => by cases hj)

set_option maxRecDepth 100000 in
set_option maxHeartbeats 1000000 in
theorem pondEach_any (wb : World) (b ck cn k n : Nat) (w : World) (h : PInv wb w b ck cn k n 0) (hp : (k, n) ∈ pairs) (ab : Option Addr) (capb : Nat) (hd : Tab wb ab n capb 1 ((bndL k n).map iC)) :
    Calls Try.prog 28 #[.slice ab n capb, .func (.func 29) #[] #[.pointer (some ⟨ck, 0, none⟩), .pointer (some ⟨cn, 0, none⟩), .pointer (some ⟨b + 1, 0, none⟩)]] w fun e w' => e = .returned (.bool true) ∧ PInv wb w' b ck cn k n (wide k n) := by
  obtain ⟨q1, q2, q3, q4, q5⟩ := pairs_small hp
  obtain ⟨i0, hi, hz0, hz1, hz2⟩ := info_parts info_int
  have HI := Lib.hid (And.intro hi (And.intro hz0 (And.intro hz1 hz2)))
  clear hi hz0 hz1 hz2
  have hsz : b + 2 ≤ w.heap.size := by have := (Array.getElem?_eq_some_iff.1 h.mcell).1; omega
  have HV := Lib.hid h
  have HD := Lib.hid hd
  have HPP := Lib.hid hp
  have HBW := Lib.hid h.hb
  have hF : 0 < wide k n := by
    have : ∀ i, 0 < wide k i := fun i => by
      induction i with
      | zero => exact Nat.one_pos
      | succ i ih => exact Nat.mul_pos ih (bnd_pos k i)
    exact this n
  clear h hd hp
  go_enter Try.func28, Try.ntmps28
  go_wp2_with ((at_make; refine wpList_make_full _ rfl _ _ 22 rfl w.heap.size 3 i0 (.int .i64 0) 1 Try.underlying22 HI.out.1 HI.out.2.1 HI.out.2.2.1 _ _ _ _ n rfl rfl rfl rfl (by rw [HI.out.2.2.2]; omega) (by unfold maxLen; omega) (Nat.le_refl _) ?_; intro w1 hO1 hg1))
  have hO := Own.full hO1 (made_ints n)
  rw [vec_nought k] at hO
  have HS : Hid (PInv wb w1 b ck cn k n 0 ∧ Own w1 (b + 2) 3 1 (.slice (some ⟨w.heap.size, 0, none⟩) n n) ((vec k n 0).map iC)) := Lib.hid ⟨HV.out.kept hg1 (fun j hj => by cases hj), hO.base_le hsz⟩
  clear hO hO1 hg1 HI HV
  generalize w.heap.size = G at *
  go_loopg [6] (wide k n) (fun g i wr => ∃ t : Nat, Hid (t + g = wide k n) ∧ Hid (t < wide k n) ∧ Hid (PInv wb wr b ck cn k n t ∧ Own wr (b + 2) 3 1 (.slice (some ⟨G, 0, none⟩) n n) ((vec k n t).map iC)))
  case atStart => exact ⟨0, Lib.hid (by omega), Lib.hid hF, HS⟩
  case round =>
    clear HS hF
    obtain ⟨t, HJ, HT, HS⟩ := hrel
    have C := Lib.hid (pondClo_any wb b ck cn k n t wr HS.out.1 HPP.out HT.out (some ⟨G, 0, none⟩) n HS.out.2.tab_of)
    go_wp2_with fail
    refine C.out.mono ?_
    rintro e w2 ⟨rfl, hv2, hg2⟩
    have hO2 := HS.out.2.keptBy hg2 (Or.inr (by simp [Value.ownBlock]; omega))
    rw [← mid_zero] at hO2
    have HS2 := Lib.hid (And.intro hv2 hO2)
    have hf0 : Hid (full k t 0 = true) := Lib.hid rfl
    clear C hv2 hg2 hO2 HS
    go_wp2_with fail
    go_loopg [6] n (fun g i wr => ∃ r : Nat, r + g = n ∧ i = .int .i64 (r : Nat) ∧ Hid (full k t r = true) ∧ Hid (PInv wb wr b ck cn k n (t + 1) ∧ Own wr (b + 2) 3 1 (.slice (some ⟨G, 0, none⟩) n n) ((mid k n t r).map iC)))
    case atStart => exact ⟨0, by omega, rfl, hf0, HS2⟩
    case round =>
      clear HS2 hf0
      obtain ⟨r, hk0, rfl, HF, HS⟩ := hrel
      have HJ2 := Lib.hid hk0
      have hk : r ≤ n := by omega
      clear hk0
      by_cases hlt : r < n
      · have hm := mid_get (k := k) (t := t) (i := r) hlt
        rw [if_neg (Nat.lt_irrefl r)] at hm
        obtain ⟨c1, f1, p1, p1'⟩ := HS.out.2.at1 (map_get hm)
        obtain ⟨b1, o1, ha, hbs, c2⟩ := HD.out.one (by rw [HBW.out]; exact HS.out.1.below) (map_get (bndL_get hlt))
        have HM := Lib.hid (map_get (f := iC) hm)
        subst ha
        clear hm
        have HX : Hid (∀ (W : World) (z : Int), Below wr.heap.size wr W → PInv wb (W.setCell ⟨G, r, none⟩ (.int .i64 z)) b ck cn k n (t + 1) ∧ Own (W.setCell ⟨G, r, none⟩ (.int .i64 z)) (b + 2) 3 1 (.slice (some ⟨G, 0, none⟩) n n) (((mid k n t r).set r z).map iC)) := by
          refine Lib.hid (fun W z hW => ⟨(HS.out.1.under hW).kept (grown_cell _ _ _) (fun j hj => by cases hj; exact hsz), ?_⟩)
          have := (HS.out.2.below hW).set1 HM.out (.int .i64 z)
          rw [← show iC z = [Value.int .i64 z] from rfl, ← List.map_set] at this
          exact this
        have hbp := bnd_pos k r
        have hbl : bnd k r ≤ 7 := by unfold bnd; split <;> omega
        have hdl := dig_lt k t r
        clear HS HM
        by_cases hd : dig k t r + 1 = bnd k r
        · have HF2 : Hid (full k t (r + 1) = true) := by show _ = _; rw [full_succ, HF.out, hd]; simp
          generalize bnd k r = B0 at *
          generalize dig k t r = dd at *
          have t1 : ((dd : Int) == (B0 : Int) - 1) = true := by rw [beq_iff_eq]; omega
          clear hd
          go_wp2_with fail
          go_quiet (fail)
          have c3 : (wr.drewN nq).cell? ⟨G, r, none⟩ = some (.int .i64 dd) := c1
          go_wp2
          go_roundg (n - (r + 1))
          case measure => have := HJ2.out; omega
          case rel =>
            have h := HX.out (wr.drewN nq) 0 (below_drewN (Below.refl _ _) nq)
            rw [mid_set hlt] at h
            exact ⟨r + 1, by omega, by go_num, HF2, h⟩
        · obtain ⟨hst, hlf⟩ := PondMath.step_next HPP.out HT.out hlt HF.out hd
          have HST := Lib.hid (And.intro hst hlf)
          clear hst hlf
          generalize bnd k r = B0 at *
          generalize dig k t r = dd at *
          have t1 : ((dd : Int) == (B0 : Int) - 1) = false := by rw [beq_eq_false_iff_ne]; omega
          have t2 : ((r : Int) == (n : Int)) = false := by rw [beq_eq_false_iff_ne]; omega
          clear hd
          go_wp2_with fail
          go_quiet (fail)
          have c3 : (wr.drewN nq).cell? ⟨G, r, none⟩ = some (.int .i64 dd) := c1
          go_wp2
          go_roundg (wide k n - (t + 1))
          case measure => have := HJ.out; have := HT.out; omega
          case rel =>
            have h := HX.out (wr.drewN nq) ((dd : Int) + 1) (below_drewN (Below.refl _ _) nq)
            rw [HST.out.1] at h
            have := HJ.out
            have h2 := HST.out.2
            exact ⟨t + 1, Lib.hid (by omega), Lib.hid h2, h⟩
      · obtain rfl : r = n := by omega
        have HE := Lib.hid (PondMath.step_end HPP.out HT.out HF.out)
        have t1 : ((r : Int) == (r : Int)) = true := by simp
        go_wp2_with fail
        go_quiet (fail)
        go_wp2
        go_ret
        have h := HS.out.1
        rw [HE.out] at h
        exact ⟨rfl, h.under (below_drewN (Below.refl _ _) _)⟩
end Go.Proofs.Ytfndahcihmpmhaa
