/- culkeep.each over EstSpreads' bounds with EstSpreads' closure: all draws, one behind the other; the squares are added. -/
import Derived.Test.YtfocmnjkoominaaSpreadClo
import Derived.BigQuiet
namespace Go.Proofs.Ytfocmnjkoominaa
open Go.ChangeShapes Go.WideShapes Go.ChangeAt Go.RowKit
open Est Span

theorem eights_get {n i : Nat} (h : i < n) : (List.replicate n (8 : Int))[i]? = some 8 := by simp [h]
theorem far_bd {f g : Nat → Int} {n : Nat} (hn : n ≤ 3) (hf : ∀ i, -1000 ≤ f i ∧ f i ≤ 1000) (hg : ∀ i, 0 ≤ g i ∧ g i ≤ 3) : ∀ T : Nat, 0 ≤ Eight.farTo f g n T ∧ Eight.farTo f g n T ≤ (T : Int) * 900000000
  | 0 => by constructor <;> simp [Eight.farTo, sumTo]
  | T + 1 => by
    have h1 := far_bd hn hf hg T
    have h2 := Eight.est_bd (t := T) hn hf hg
    have h3 := Eight.total_bd hn hf
    have h4 := Eight.sqr_bd (y := Eight.est f g n T - sumTo f n) (by omega) (by omega)
    have e : Eight.farTo f g n (T + 1) = Eight.farTo f g n T + (Eight.est f g n T - sumTo f n) * (Eight.est f g n T - sumTo f n) := rfl
    rw [e]
    omega

set_option maxRecDepth 100000 in
set_option maxHeartbeats 1000000 in
theorem spreadEach_any (w W : World) (b pv pl pr X n : Nat) (vp vq : Value) (ab : Option Addr) (capb : Nat) (f g : Nat → Int) (hn : n ≤ 3) (hf : ∀ i, -1000 ≤ f i ∧ f i ≤ 1000) (hg : ∀ i, 0 ≤ g i ∧ g i ≤ 3)
    (h : SI w W b pv pl pr X vp vq (.slice ab n capb) (listTo f n) (listTo g n) (List.replicate n 8) (sumTo f n) 0) :
    Calls Try.prog 22 #[.slice ab n capb, .func (.func 23) #[] #[.pointer (some ⟨pv, 0, none⟩), .pointer (some ⟨pl, 0, none⟩), .pointer (some ⟨X, 0, none⟩), .pointer (some ⟨pr, 0, none⟩)]] W fun e w' => e = .returned (.bool true) ∧ SI w w' b pv pl pr X vp vq (.slice ab n capb) (listTo f n) (listTo g n) (List.replicate n 8) (sumTo f n) (Eight.farTo f g n (8 ^ n)) := by
  obtain ⟨i0, hi, hz0, hz1, hz2⟩ := info_parts info_int
  have HI := Lib.hid (And.intro hi (And.intro hz0 (And.intro hz1 hz2)))
  clear hi hz0 hz1 hz2
  have hwd := Eight.wide_le hn
  have HF := Lib.hid hf
  have HG := Lib.hid hg
  have hsz := h.sz
  have hXb := h.lt.2.2.2
  have HN := Lib.hid hn
  have HV : Hid (SI w W b pv pl pr X vp vq (.slice ab n capb) (listTo f n) (listTo g n) (List.replicate n 8) (sumTo f n) (Eight.farTo f g n 0)) := Lib.hid h
  have HFB := Lib.hid (fun T => far_bd hn hf hg T)
  clear h hf hg
  go_enter Try.func22, Try.ntmps22
  go_wp2_with ((at_make; refine wpList_make_full _ rfl _ _ 22 rfl W.heap.size 3 i0 (.int .i64 0) 1 Try.underlying22 HI.out.1 HI.out.2.1 HI.out.2.2.1 _ _ _ _ n rfl rfl rfl rfl (by rw [HI.out.2.2.2]; omega) (by unfold maxLen; omega) (Nat.le_refl _) ?_; intro w1 hO1 hg1))
  have hO := Own.full hO1 (made_ints n)
  rw [Eight.vec_nought] at hO
  have HS : Hid (SI w w1 b pv pl pr X vp vq (.slice ab n capb) (listTo f n) (listTo g n) (List.replicate n 8) (sumTo f n) (Eight.farTo f g n 0) ∧ Own w1 b 3 1 (.slice (some ⟨W.heap.size, 0, none⟩) n n) ((Eight.vec n 0).map iC)) := Lib.hid ⟨HV.out.kept hg1 (fun j hj => by cases hj), hO.base_le hsz⟩
  clear hO hO1 hg1 HI HV
  generalize W.heap.size = G at *
  go_loopg [6] (8 ^ n) (fun gg i wr => ∃ t : Nat, Hid (t + gg = 8 ^ n) ∧ Hid (t < 8 ^ n) ∧ Hid (SI w wr b pv pl pr X vp vq (.slice ab n capb) (listTo f n) (listTo g n) (List.replicate n 8) (sumTo f n) (Eight.farTo f g n t) ∧ Own wr b 3 1 (.slice (some ⟨G, 0, none⟩) n n) ((Eight.vec n t).map iC)))
  case atStart => exact ⟨0, Lib.hid (by omega), Lib.hid (by omega), HS⟩
  case round =>
    clear HS
    obtain ⟨t, HJ, HT, HS⟩ := hrel
    have hfb := HFB.out t
    have hgb : b ≤ G := (HS.out.2.own.lt G rfl).1
    have C := spreadClo_any w wr b pv pl pr X n t vp vq (.slice ab n capb) f g (List.replicate n 8) (Eight.farTo f g n t) HN.out HF.out HG.out HS.out.1 ⟨hfb.1, by have := HT.out; omega⟩ (some ⟨G, 0, none⟩) n HS.out.2.tab_of
    rw [show Eight.farTo f g n t + (Eight.est f g n t - sumTo f n) * (Eight.est f g n t - sumTo f n) = Eight.farTo f g n (t + 1) from rfl] at C
    have C := Lib.hid C
    clear hfb
    go_wp2_with fail
    refine C.out.mono ?_
    rintro e w2 ⟨rfl, hv2, hg2⟩
    have hO2 := HS.out.2.keptBy hg2 (Or.inr (by simp [Value.ownBlock]; omega))
    rw [← Eight.mid_zero] at hO2
    have HS2 := Lib.hid (And.intro hv2 hO2)
    have hf0 : Hid (Eight.full t 0 = true) := Lib.hid rfl
    clear C hv2 hg2 hO2 HS
    go_wp2_with fail
    go_loopg [6] n (fun gg i wr => ∃ r : Nat, r + gg = n ∧ i = .int .i64 (r : Nat) ∧ Hid (Eight.full t r = true) ∧ Hid (SI w wr b pv pl pr X vp vq (.slice ab n capb) (listTo f n) (listTo g n) (List.replicate n 8) (sumTo f n) (Eight.farTo f g n (t + 1)) ∧ Own wr b 3 1 (.slice (some ⟨G, 0, none⟩) n n) ((Eight.mid n t r).map iC)))
    case atStart => exact ⟨0, by omega, rfl, hf0, HS2⟩
    case round =>
      clear HS2 hf0
      obtain ⟨r, hk0, rfl, HFU, HS⟩ := hrel
      have HJ2 := Lib.hid hk0
      have hk : r ≤ n := by omega
      clear hk0
      by_cases hlt : r < n
      · have hm := Eight.mid_get (t := t) (i := r) hlt
        rw [if_neg (Nat.lt_irrefl r)] at hm
        obtain ⟨c1, f1, p1, p1'⟩ := HS.out.2.at1 (map_get hm)
        obtain ⟨b1, o1, ha, hbs, c2⟩ := HS.out.1.ob.tab_of.one (Below.refl _ _) (map_get (eights_get hlt))
        have HM := Lib.hid (map_get (f := iC) hm)
        subst ha
        clear hm
        have HX : Hid (∀ (W : World) (z : Int), Below wr.heap.size wr W → SI w (W.setCell ⟨G, r, none⟩ (.int .i64 z)) b pv pl pr X vp vq (.slice (some ⟨b1, o1, none⟩) n capb) (listTo f n) (listTo g n) (List.replicate n 8) (sumTo f n) (Eight.farTo f g n (t + 1)) ∧ Own (W.setCell ⟨G, r, none⟩ (.int .i64 z)) b 3 1 (.slice (some ⟨G, 0, none⟩) n n) (((Eight.mid n t r).set r z).map iC)) := by
          refine Lib.hid (fun W z hW => ⟨(HS.out.1.under hW).kept (grown_cell _ _ _) (fun j hj => by cases hj; exact hgb), ?_⟩)
          have := (HS.out.2.below hW).set1 HM.out (.int .i64 z)
          rw [← show iC z = [Value.int .i64 z] from rfl, ← List.map_set] at this
          exact this
        have hdl := Eight.dig_lt t r
        clear HS HM
        by_cases hd : Eight.dig t r = 7
        · have HF2 : Hid (Eight.full t (r + 1) = true) := by show _ = _; rw [Eight.full_succ, HFU.out, hd]; simp
          generalize Eight.dig t r = dd at *
          have t1 : ((dd : Int) == 7) = true := by rw [beq_iff_eq]; omega
          clear hd
          go_wp2_with fail
          go_quiet (fail)
          have c3 : (wr.drewN nq).cell? ⟨G, r, none⟩ = some (.int .i64 dd) := c1
          go_wp2
          go_roundg (n - (r + 1))
          case measure => have := HJ2.out; omega
          case rel =>
            have h := HX.out (wr.drewN nq) 0 (below_drewN (Below.refl _ _) nq)
            rw [Eight.mid_set hlt] at h
            exact ⟨r + 1, by omega, by go_num, HF2, h⟩
        · obtain ⟨hst, hlf⟩ := Eight.step_next HN.out HT.out hlt HFU.out hd
          have HST := Lib.hid (And.intro hst hlf)
          clear hst hlf
          generalize Eight.dig t r = dd at *
          have t1 : ((dd : Int) == 7) = false := by rw [beq_eq_false_iff_ne]; omega
          have t2 : ((r : Int) == (n : Int)) = false := by rw [beq_eq_false_iff_ne]; omega
          clear hd
          go_wp2_with fail
          go_quiet (fail)
          have c3 : (wr.drewN nq).cell? ⟨G, r, none⟩ = some (.int .i64 dd) := c1
          go_wp2
          go_roundg (8 ^ n - (t + 1))
          case measure => have := HJ.out; have := HT.out; omega
          case rel =>
            have h := HX.out (wr.drewN nq) ((dd : Int) + 1) (below_drewN (Below.refl _ _) nq)
            rw [HST.out.1] at h
            have := HJ.out
            have h2 := HST.out.2
            exact ⟨t + 1, Lib.hid (by omega), Lib.hid h2, h⟩
      · obtain rfl : r = n := by omega
        have HE := Lib.hid (Eight.step_end HN.out HT.out HFU.out)
        have t1 : ((r : Int) == (r : Int)) = true := by simp
        go_wp2_with fail
        go_quiet (fail)
        go_wp2
        go_ret
        have h := HS.out.1
        rw [HE.out] at h
        exact ⟨rfl, h.under (below_drewN (Below.refl _ _) _)⟩
end Go.Proofs.Ytfocmnjkoominaa
