/- The contract of PondAll's closure: the draws are put to a reservoir, and its set is counted. -/
import Derived.Test.YtfndahcihmpmhaaPondMath
import Derived.Test.YtfndahcihmpmhaaPondVar
import Derived.Deep.LoopGhost
namespace Go.Proofs.Ytfndahcihmpmhaa
open Go.ChangeShapes Go.WideShapes Go.ChangeAt Go.RowKit
open PondMath

theorem wf64 {z : Int} (h1 : -9223372036854775808 ≤ z) (h2 : z ≤ 9223372036854775807) : (Lit.int .i64 z).wf = true := by
  simp [Lit.wf, IntKind.min, IntKind.max, IntKind.bits, IntKind.signed]; omega
theorem lawII : Maps.Keyed Try.prog 3 := Maps.int_keyed Try.underlying3
theorem zeroI (w : World) : (zeroValue 3).run Try.prog w = .ok (.int .i64 0) w := by kernel_rfl
theorem keyII (z : Int) (h : -9223372036854775808 ≤ z ∧ z ≤ 9223372036854775807) : keyOf Try.prog 3 (.int .i64 z) = some (.int .i64 z) := Maps.keyOf_int_mk (P := Try.prog) Try.underlying3 (wf64 h.1 h.2)
theorem or_all : ∀ S : Fin 64, ∀ x : Fin 6, bits BinOp.or IntKind.i64 (S.val : Int) (wrap64 (2 ^ x.val)) = ((S.val ||| (1 <<< x.val) : Nat) : Int) := by decide +kernel
theorem or_small {S x : Nat} (hS : S < 64) (hx : x < 6) : bits BinOp.or IntKind.i64 (S : Int) (wrap64 (2 ^ x)) = ((S ||| (1 <<< x) : Nat) : Int) := or_all ⟨S, hS⟩ ⟨x, hx⟩
theorem or_lt {S x : Nat} (hS : S < 64) (hx : x < 6) : S ||| (1 <<< x) < 64 := by
  refine Nat.or_lt_two_pow (n := 6) hS ?_
  rw [Nat.one_shiftLeft]
  exact Nat.pow_lt_pow_right (by decide) hx
theorem code_next {l : List Int} {m x : Nat} (h : l[m]? = some (x : Int)) : code (l.take (m + 1)).reverse = code (l.take m).reverse ||| (1 <<< x) := by
  rw [List.take_add_one, h, List.reverse_append]; rfl
/-- what the closure finds: k and n lie below block b, block b is the map, its variable lies behind it -/
structure PInv (wb w : World) (b ck cn k n t : Nat) : Prop where
  hb : wb.heap.size = b
  kc : wb.heap[ck]? = some (.cells #[.int .i64 k] 3 (0, 0))
  nc : wb.heap[cn]? = some (.cells #[.int .i64 n] 3 (0, 0))
  below : Below b wb w
  mcell : w.heap[b + 1]? = some (.cells #[.map (some b)] 50 (0, 0))
  cnts : OwnsCounts Try.prog 3 3 w b (codes k n t)

set_option maxRecDepth 100000 in
set_option maxHeartbeats 2000000 in
theorem pondClo_any (wb : World) (b ck cn k n t : Nat) (w : World) (h : PInv wb w b ck cn k n t) (hp : (k, n) ∈ pairs) (ht : t < wide k n) (ad : Option Addr) (capd : Nat) (hd : Tab w ad n capd 1 ((vec k n t).map iC)) :
    Calls Try.prog 29 #[.slice ad n capd, .pointer (some ⟨ck, 0, none⟩), .pointer (some ⟨cn, 0, none⟩), .pointer (some ⟨b + 1, 0, none⟩)] w fun e w' => e = .returned (.bool true) ∧ PInv wb w' b ck cn k n (t + 1) ∧ w.grownBy w' (some b) := by
  obtain ⟨p1, p2, p3, p4, p5⟩ := pairs_small hp
  obtain ⟨h1, h2, h3, h4, h5, h6⟩ := h
  have lk : ck < b := by rw [← h1]; exact (Array.getElem?_eq_some_iff.1 h2).1
  have ln : cn < b := by rw [← h1]; exact (Array.getElem?_eq_some_iff.1 h3).1
  have lm : b + 1 < w.heap.size := (Array.getElem?_eq_some_iff.1 h5).1
  have hkw : w.heap[ck]? = some (.cells #[.int .i64 k] 3 (0, 0)) := (h4.block ck lk).trans h2
  have hnw : w.heap[cn]? = some (.cells #[.int .i64 n] 3 (0, 0)) := (h4.block cn ln).trans h3
  have ckc := cell_blk (i := 0) hkw rfl
  have HKN := Lib.hid (And.intro hkw hnw)
  have HH := Lib.hid (And.intro h1 (And.intro h2 (And.intro h3 (And.intro h4 (And.intro h5 h6)))))
  have HD := Lib.hid hd
  have HP0 := Lib.hid (PVar.new (w := w) (wr := w) k 0 (Below.refl _ _))
  have HT := Lib.hid ht
  clear h1 h2 h3 h4 h5 h6 hd hkw hnw hp ht
  go_enter Try.func29, Try.ntmps29
  go_wp2_with fail
  clear ckc
  generalize hW0 : w.alloc (.cells #[.int .i64 k, .int .i64 0, .slice none 0 0] 24) = W0 at *
  generalize hPP : w.heap.size = P at *
  clear hW0
  have HPS := Lib.hid hPP
  clear hPP
  go_loopg [17] n (fun g i wr => ∃ (j : Nat) (v : Value), j + g = n ∧ i = .int .i64 j ∧ Hid (PVar w wr P k j v (items k t j)))
  case atStart => exact ⟨0, _, by omega, rfl, HP0⟩
  case round =>
    clear HP0
    obtain ⟨j, v, hj0, rfl, HP⟩ := hrel
    have HJ := Lib.hid hj0
    have hj : j ≤ n := by omega
    clear hj0
    have hlj := items_len k t j
    obtain ⟨len, hlen⟩ : ∃ len, min k j = len := ⟨_, rfl⟩
    rw [hlen] at hlj
    obtain ⟨aj, cj, rfl, hTj⟩ := HP.out.own.tab
    rw [List.length_map, hlj] at hTj HP
    obtain ⟨⟨c0, c1, c2⟩, f0, f1, f2⟩ := pond_cells HP.out.blk
    have hbj := HP.out.big
    by_cases hlt : j < n
    · have hdj := dig_le k t j
      have hE : putE k j len (dig k t j : Nat) = 0 := by
        by_cases h : j < k
        · rw [show len = j from by omega]; exact putE_part p1 (by omega) h (by omega) (by omega)
        · rw [show len = k from by omega]; exact putE_full p1 (by omega) (by omega) (by omega) (by omega) (by omega)
      have C := put_ok k j aj len cj (items k t j) j (dig k t j) wr hTj hE
      rw [show pondL k (j : Nat) (items k t j) (j : Nat) (dig k t j) = items k t (j + 1) from rfl] at C
      unfold pondV at C
      have C := Lib.hid C
      obtain ⟨b1, o1, ha, hbs, cd⟩ := HD.out.one HP.out.bel (map_get (vec_get hlt))
      subst ha
      have HLN : Hid ((items k t (j + 1)).length = min k (j + 1)) := Lib.hid (items_len k t (j + 1))
      clear hE hTj hlj
      generalize dig k t j = dd at *
      clear hlen
      go_wp2_with fail
      refine C.out.mono ?_
      rintro e w1 ⟨s1, rfl, hO1, hb1⟩
      obtain ⟨q1, cap1, rfl, hT1⟩ := hO1.tab
      rw [List.length_map] at hO1 ⊢
      obtain ⟨n1, hn1⟩ : ∃ n1, (items k t (j + 1)).length = n1 := ⟨_, rfl⟩
      rw [hn1] at hO1 ⊢
      clear c0 c1 c2 f0 f1 f2 hn1 hT1 C
      obtain ⟨⟨c0, c1, c2⟩, f0, f1, f2⟩ := pond_cells (HP.out.below hb1).blk
      have HPS := Lib.hid ((HP.out.below hb1).set (K' := k) (S' := (j : Int) + 1) hO1 hbj)
      clear hO1 hb1
      go_wp2_with fail
      go_roundg (n - (j + 1))
      case measure => have := HJ.out; omega
      case rel => exact ⟨j + 1, _, by omega, by go_num, HPS⟩
    · obtain rfl : j = n := by omega
      have HI := Lib.hid (items_bd k t j)
      have HTj := Lib.hid hTj
      have HLL := Lib.hid hlj
      have hl3 : len ≤ 3 := by omega
      clear hTj hlj hlen HJ hj hlt
      have cnc : wr.cell? ⟨cn, 0, none⟩ = some (.int .i64 j) := cell_blk (HP.out.bel.block cn (by rw [HPS.out]; omega) |>.trans HKN.out.2) rfl
      obtain ⟨wj, hwj⟩ : ∃ wj, wj = wr := ⟨_, rfl⟩
      subst hwj
      go_wp2_with fail
      go_loopg [10, 35] len (fun g s i wr => ∃ (m S : Nat), m + g = len ∧ i = .int .i64 m ∧ s = .int .i64 S ∧ S < 64 ∧ Hid (S = code ((items k t j).take m).reverse) ∧ wr = wj)
      case atStart => exact ⟨0, 0, by omega, rfl, rfl, by omega, Lib.hid rfl, rfl⟩
      case round =>
        obtain ⟨m, S, hm0, rfl, rfl, hS, HS, rfl⟩ := hrel
        have HM := Lib.hid hm0
        have hm : m ≤ len := by omega
        clear hm0
        by_cases hml : m < len
        · obtain ⟨x, hx⟩ : ∃ x, (items k t j)[m]? = some x := ⟨_, List.getElem?_eq_getElem (by rw [HLL.out]; exact hml)⟩
          have bx := HI.out x (List.mem_of_getElem? hx)
          obtain ⟨x, rfl⟩ := Int.eq_ofNat_of_zero_le bx.1
          have hxj : x < j := by omega
          have hx6 : x < 6 := by omega
          obtain ⟨b1, o1, ha, hbs, cx⟩ := HTj.out.one (Below.refl _ _) (map_get hx)
          subst ha
          clear bx
          go_wp2_with fail
          rw [or_small hS hx6]
          have hS2 := or_lt hS hx6
          have HN := Lib.hid (code_next hx)
          go_roundg (len - (m + 1))
          case measure => have := HM.out; omega
          case rel => exact ⟨m + 1, S ||| (1 <<< x), by omega, by go_num, rfl, hS2, Lib.hid (by rw [HN.out, ← HS.out]), rfl⟩
        · obtain rfl : m = len := by omega
          have hSL : S = left k j t := by rw [HS.out, List.take_of_length_le (by rw [HLL.out]; exact Nat.le_refl _)]; rfl
          have HSL := Lib.hid hSL
          obtain ⟨h1, h2, h3, h4, h5, h6⟩ := HH.out
          have hbel : Below w.heap.size w wr := HP.out.bel
          have hc6 := h6.below hbel
          have hmc : wr.heap[b + 1]? = some (.cells #[.map (some b)] 50 (0, 0)) := (hbel.block (b + 1) (by rw [HPS.out]; exact lm)).trans h5
          have cm := cell_blk (i := 0) hmc rfl
          have hky := keyII (S : Int) (by omega)
          have hlook := hc6.look lawII Try.underlying50 Try.underlying3 (zeroI _) hky
          have hcl : (codes k j t).count (S : Int) ≤ 720 := by have e1 := List.count_le_length (a := (S : Int)) (l := codes k j t); rw [codes_len] at e1; have := HT.out; omega
          have HC6 := Lib.hid hc6
          have HKY := Lib.hid hky
          have HLE : Hid ((codes k j t).length < 1000000) := Lib.hid (by rw [codes_len]; have := HT.out; omega)
          have HMC := Lib.hid (And.intro hmc hbel)
          clear hSL h1 h2 h3 h4 h5 h6 hbel hc6 hmc hky HS HM hm hml c0 c1 c2 f0 f1 f2 cnc
          go_wp2_with (at_mapUpdate; refine wpList_count _ rfl _ _ _ 50 rfl 3 3 lawII Try.underlying50 Try.underlying3 b (codes k j t) rfl HC6.out HLE.out (S : Int) rfl rfl HKY.out ?_; intro w6 hc7 hg7)
          go_ret
          obtain ⟨h1, h2, h3, h4, h5, h6⟩ := HH.out
          obtain ⟨hmc, hbel⟩ := HMC.out
          refine ⟨rfl, ⟨h1, h2, h3, ?_, ?_, ?_⟩, ?_⟩
          · exact (h4.trans (hbel.mono (by rw [HPS.out]; omega))).grown hg7 (by have := hbel.size; rw [HPS.out] at this; omega) (fun q hq => by cases hq; exact Nat.le_refl _)
          · rw [hg7.block _ (Array.getElem?_eq_some_iff.1 hmc).1 (by simp)]; exact hmc
          · rw [codes, ← HSL.out]; exact hc7
          · exact ⟨hg7.os.trans hbel.os, hg7.tape.trans hbel.tape, hg7.output.trans hbel.output, Nat.le_trans hbel.size hg7.size, fun i hi hne => (hg7.block i (Nat.lt_of_lt_of_le hi hbel.size) hne).trans (hbel.block i hi)⟩
end Go.Proofs.Ytfndahcihmpmhaa
