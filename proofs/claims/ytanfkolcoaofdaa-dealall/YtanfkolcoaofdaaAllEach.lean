/- culkeep.each over DealAll's bounds with DealAll's closure: all draws, one behind the other; each is dealt, ranked and set down. -/
import Derived.Test.YtanfkolcoaofdaaAllClo
import Derived.Test.YtanfkolcoaofdaaOwnTwo
import Derived.BigQuiet
import Derived.Deep.LoopGhost
namespace Go.Proofs.Ytanfkolcoaofdaa
open Go.RowKit
namespace Digit

def bndOf (n : Nat) : List Int := (List.range n).map (fun (i : Nat) => (i : Int) + 1)
theorem bndOf_len (n : Nat) : (bndOf n).length = n := by simp [bndOf]
theorem bndOf_get {n i : Nat} (h : i < n) : (bndOf n)[i]? = some ((i : Int) + 1) := by simp [bndOf, h]
theorem bndOf_succ (n : Nat) : bndOf (n + 1) = bndOf n ++ [(n : Int) + 1] := by simp [bndOf, List.range_succ]
theorem vec_zero (n : Nat) : List.replicate n (0 : Int) = vecI n 0 := by
  apply List.ext_getElem?
  intro j
  by_cases hj : j < n
  · rw [vecI_get hj]
    simp [hj, dig]
  · rw [List.getElem?_eq_none (by simp; omega), List.getElem?_eq_none (by rw [vecI_len]; omega)]

theorem AllInv.kept {wb : World} {b c n t : Nat} {a : Option Addr} {cap : Nat} {w w' : World} {row : Option Nat} (h : AllInv wb b c n t a cap w) (hg : w.grownBy w' row) (hr : ∀ j, row = some j → b + 2 ≤ j) : AllInv wb b c n t a cap w' := by
  obtain ⟨h1, h2, h3, h4, h5, h6⟩ := h
  have hlm := lt_of_block h5
  exact ⟨h1, h2, h3.grown hg (by omega) (fun j hj => by have := hr j hj; omega), h4, (hg.block _ hlm (fun e => by have := hr _ e.symm; omega)).trans h5, h6.kept hg (fun e => by have := hr _ e.symm; omega)⟩
theorem AllInv.under {wb : World} {b c n t : Nat} {a : Option Addr} {cap : Nat} {w w' : World} (h : AllInv wb b c n t a cap w) (hb : Below w.heap.size w w') : AllInv wb b c n t a cap w' := by
  refine h.kept (row := none) ⟨hb.os, hb.tape, hb.output, hb.size, fun k hk _ => hb.block k hk⟩ (fun j hj => by cases hj)

set_option maxRecDepth 100000 in
set_option maxHeartbeats 1000000 in
theorem allEach_any (wb : World) (b c n : Nat) (a : Option Addr) (cap : Nat) (w : World) (h : AllInv wb b c n 0 a cap w) (hn : n < 7) (ab : Option Addr) (capb : Nat) (hd : Tab wb ab n capb 1 ((bndOf n).map iC)) :
    Calls Try.prog 36 #[.slice ab n capb, .func (.func 37) #[] #[.pointer (some ⟨c, 0, none⟩), .pointer (some ⟨b + 1, 0, none⟩)]] w fun e w' => e = .returned (.bool true) ∧ AllInv wb b c n (fact n) a cap w' := by
  obtain ⟨i0, hi, hz0, hz1, hz2⟩ := info_parts info_int
  have HI := Lib.hid (And.intro hi (And.intro hz0 (And.intro hz1 hz2)))
  clear hi hz0 hz1 hz2
  have hsz : b + 2 ≤ w.heap.size := by have := lt_of_block h.mcell; omega
  have HV := Lib.hid h
  have HD := Lib.hid hd
  have hbw : wb.heap.size = b := h.hb
  have HBW := Lib.hid hbw
  clear h hd hbw
  go_enter Try.func36, Try.ntmps36
  go_wp2_with ((at_make; refine wpList_make_full _ rfl _ _ 22 rfl w.heap.size 3 i0 (.int .i64 0) 1 Try.underlying22 HI.out.1 HI.out.2.1 HI.out.2.2.1 _ _ _ _ n rfl rfl rfl rfl (by rw [HI.out.2.2.2]; omega) (by unfold maxLen; omega) (Nat.le_refl _) ?_; intro w1 hO1 hg1))
  have hO := Own.full hO1 (made_ints n)
  rw [vec_zero] at hO
  have HS : Hid (AllInv wb b c n 0 a cap w1 ∧ Own w1 (b + 2) 3 1 (.slice (some ⟨w.heap.size, 0, none⟩) n n) ((vecI n 0).map iC)) := Lib.hid ⟨HV.out.kept hg1 (fun j hj => by cases hj), hO.base_le hsz⟩
  clear hO hO1 hg1 HI HV
  generalize w.heap.size = G at *
  have hF : 0 < fact n := fact_pos n
  go_loopg [6] (fact n) (fun g i wr => ∃ t : Nat, Hid (t + g = fact n) ∧ Hid (t < fact n) ∧ Hid (AllInv wb b c n t a cap wr ∧ Own wr (b + 2) 3 1 (.slice (some ⟨G, 0, none⟩) n n) ((vecI n t).map iC)))
  case atStart => exact ⟨0, Lib.hid (by omega), Lib.hid hF, HS⟩
  case round =>
    clear HS hF
    obtain ⟨t, HJ, HT, HS⟩ := hrel
    have C := Lib.hid (allClo_any wb b c n t a cap wr HS.out.1 hn HT.out (some ⟨G, 0, none⟩) n HS.out.2.tab_of)
    go_wp2_with fail
    refine C.out.mono ?_
    rintro e w2 ⟨rfl, hv2, hg2⟩
    have hO2 := HS.out.2.keptBy hg2 (Or.inr (by simp [Value.ownBlock]; omega))
    rw [← mid_zero] at hO2
    have HS2 := Lib.hid (And.intro hv2 hO2)
    have hf0 : Hid (full t 0 = true) := Lib.hid rfl
    clear C hv2 hg2 hO2 HS
    go_wp2_with fail
    go_loopg [6] n (fun g i wr => ∃ k : Nat, k + g = n ∧ i = .int .i64 (k : Nat) ∧ Hid (full t k = true) ∧ Hid (AllInv wb b c n (t + 1) a cap wr ∧ Own wr (b + 2) 3 1 (.slice (some ⟨G, 0, none⟩) n n) ((mid n t k).map iC)))
    case atStart => exact ⟨0, by omega, rfl, hf0, HS2⟩
    case round =>
      clear HS2 hf0
      obtain ⟨k, hk0, rfl, HF, HS⟩ := hrel
      have HJ2 := Lib.hid hk0
      have hk : k ≤ n := by omega
      clear hk0
      by_cases hlt : k < n
      · have hm := mid_get (t := t) (i := k) hlt
        rw [if_neg (Nat.lt_irrefl k)] at hm
        obtain ⟨c1, f1, p1, p1'⟩ := HS.out.2.at1 (map_get hm)
        obtain ⟨b1, o1, ha, hbs, c2⟩ := HD.out.one (by rw [HBW.out]; exact HS.out.1.below) (map_get (bndOf_get hlt))
        have HM := Lib.hid (map_get (f := iC) hm)
        subst ha
        clear hm
        have HX : Hid (∀ (W : World) (z : Int), Below wr.heap.size wr W → AllInv wb b c n (t + 1) a cap (W.setCell ⟨G, k, none⟩ (.int .i64 z)) ∧ Own (W.setCell ⟨G, k, none⟩ (.int .i64 z)) (b + 2) 3 1 (.slice (some ⟨G, 0, none⟩) n n) (((mid n t k).set k z).map iC)) := by
          refine Lib.hid (fun W z hW => ⟨(HS.out.1.under hW).kept (grown_cell _ _ _) (fun j hj => by cases hj; exact hsz), ?_⟩)
          have := (HS.out.2.below hW).set1 HM.out (.int .i64 z)
          rw [← show iC z = [Value.int .i64 z] from rfl, ← List.map_set] at this
          exact this
        clear HS HM
        by_cases hd : dig t k = k
        · have HF2 : Hid (full t (k + 1) = true) := by show _ = _; rw [full_succ, HF.out, hd]; simp
          rw [hd] at c1
          have t1 : ((k : Int) == (k : Int)) = true := by simp
          clear hd
          go_wp2_with fail
          go_quiet (fail)
          have c3 : (wr.drewN nq).cell? ⟨G, k, none⟩ = some (.int .i64 k) := c1
          go_wp2
          go_roundg (n - (k + 1))
          case measure => have := HJ2.out; omega
          case rel =>
            have h := HX.out (wr.drewN nq) 0 (below_drewN (Below.refl _ _) nq)
            rw [mid_set hlt] at h
            exact ⟨k + 1, by omega, by go_num, HF2, h⟩
        · obtain ⟨hst, hlf⟩ := step_next hn HT.out hlt HF.out hd
          have HST := Lib.hid (And.intro hst hlf)
          have hdk := dig_le t k
          clear hst hlf
          generalize dig t k = dd at *
          have t1 : ((dd : Int) == (k : Int)) = false := by rw [beq_eq_false_iff_ne]; omega
          have t2 : ((k : Int) == (n : Int)) = false := by rw [beq_eq_false_iff_ne]; omega
          clear hd
          go_wp2_with fail
          go_quiet (fail)
          have c3 : (wr.drewN nq).cell? ⟨G, k, none⟩ = some (.int .i64 dd) := c1
          go_wp2
          go_roundg (fact n - (t + 1))
          case measure => have := HJ.out; have := HT.out; omega
          case rel =>
            have h := HX.out (wr.drewN nq) ((dd : Int) + 1) (below_drewN (Below.refl _ _) nq)
            rw [HST.out.1] at h
            have := HJ.out
            have h2 := HST.out.2
            exact ⟨t + 1, Lib.hid (by omega), Lib.hid h2, h⟩
      · obtain rfl : k = n := by omega
        have HE := Lib.hid (step_end hn HT.out HF.out)
        have t1 : ((k : Int) == (k : Int)) = true := by simp
        go_wp2_with fail
        go_quiet (fail)
        go_wp2
        go_ret
        have h := HS.out.1
        rw [HE.out] at h
        exact ⟨rfl, h.under (below_drewN (Below.refl _ _) _)⟩

end Digit
end Go.Proofs.Ytanfkolcoaofdaa
