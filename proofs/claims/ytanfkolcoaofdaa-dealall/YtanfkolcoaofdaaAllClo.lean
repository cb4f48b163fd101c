/- The closure of DealAll by a contract of its own: one more order dealt, ranked and set down. -/
import Derived.Test.YtanfkolcoaofdaaAllMath
import Derived.Test.YtanfkolcoaofdaaKeySet
import Derived.Test.YtanfkolcoaofdaaDigitDeal
import Derived.Test.YtanfkolcoaofdaaDigit
namespace Go.Proofs.Ytanfkolcoaofdaa
open Go.RowKit
open Go.Maps (Keyed int_keyed)
namespace Digit

theorem deal_okN (n t : Nat) : Ok (dealTo (rowOf n) (vecI n t) n) ∧ (dealTo (rowOf n) (vecI n t) n).length = n := by
  have hp := deal_perm (l := rowOf n) (vecI_ok n t) (by rw [vecI_len, rowOf_len]) n (by rw [rowOf_len]; exact Nat.le_refl _)
  have hl : (dealTo (rowOf n) (vecI n t) n).length = n := by rw [hp.length_eq, rowOf_len]
  refine ⟨⟨?_, ?_⟩, hl⟩
  · refine hp.nodup_iff.2 ?_
    unfold rowOf
    exact List.Pairwise.map _ (fun a b (h : a ≠ b) h2 => h (by exact_mod_cast h2)) List.nodup_range
  · intro x hx
    rw [hl]
    exact rowOf_mem.1 (hp.mem_iff.1 hx)
theorem rk_lt {n t : Nat} (hn : n < 7) : rk n t < 1000 := by
  have h := (orderOf_rank (deal_okN n t).1).1
  rw [(deal_okN n t).2] at h
  have : fact n ≤ 720 := by
    have : n = 0 ∨ n = 1 ∨ n = 2 ∨ n = 3 ∨ n = 4 ∨ n = 5 ∨ n = 6 := by omega
    rcases this with rfl | rfl | rfl | rfl | rfl | rfl | rfl <;> decide
  unfold rk
  omega
theorem grown_of {w v u : World} {row : Option Nat} (h : Below w.heap.size w v) (hg : v.grownBy u row) : w.grownBy u row :=
  ⟨hg.1.trans h.os, hg.2.trans h.tape, hg.3.trans h.output, Nat.le_trans h.size hg.4, fun k hk hne => (hg.block k (Nat.lt_of_lt_of_le hk h.size) hne).trans (h.block k hk)⟩
def keysTo (n t : Nat) : List Int := (List.range t).map (fun s => (rk n s : Int))
theorem keysTo_len (n t : Nat) : (keysTo n t).length = t := by simp [keysTo]
theorem keysTo_succ (n t : Nat) : keysTo n (t + 1) = keysTo n t ++ [(rk n t : Int)] := by simp [keysTo, List.range_succ]
theorem keysTo_new {n t : Nat} (hn : n < 7) (ht : t < fact n) : (rk n t : Int) ∉ keysTo n t := by
  intro h
  obtain ⟨s, hs, he⟩ := List.mem_map.1 h
  exact rk_apart hn (List.mem_range.1 hs) ht (by exact_mod_cast he)
theorem lawI : Keyed Try.prog 3 := int_keyed Try.underlying3
theorem zeroB (w : World) : (zeroValue 4).run Try.prog w = .ok (.bool false) w := by rfl

/-- what the closure finds: the row lies below block b, block b is the map, its variable lies behind it -/
structure AllInv (wb : World) (b c n t : Nat) (a : Option Addr) (cap : Nat) (w : World) : Prop where
  hb : wb.heap.size = b
  row : Tab wb a n cap 1 ((rowOf n).map iC)
  below : Below b wb w
  cell : wb.heap[c]? = some (.cells #[.slice a n cap] 22 (0, 0))
  mcell : w.heap[b + 1]? = some (.cells #[.map (some b)] 42 (0, 0))
  keys : OwnsKeys Try.prog 3 4 w b (keysTo n t)

set_option maxRecDepth 100000 in
set_option maxHeartbeats 1000000 in
theorem allClo_any (wb : World) (b c n t : Nat) (a : Option Addr) (cap : Nat) (w : World) (h : AllInv wb b c n t a cap w) (hn : n < 7) (ht : t < fact n) (ad : Option Addr) (capd : Nat) (hd : Tab w ad n capd 1 ((vecI n t).map iC)) :
    Calls Try.prog 37 #[.slice ad n capd, .pointer (some ⟨c, 0, none⟩), .pointer (some ⟨b + 1, 0, none⟩)] w fun e w' => e = .returned (.bool true) ∧ AllInv wb b c n (t + 1) a cap w' ∧ w.grownBy w' (some b) := by
  obtain ⟨h1, h2, h3, h4, h5, h6⟩ := h
  have hlc := lt_of_block h4
  have hlm := lt_of_block h5
  have hrow : Tab w a n cap 1 ((rowOf n).map iC) := h2.below (by rw [h1]; exact h3)
  have hcw : w.heap[c]? = some (.cells #[.slice a n cap] 22 (0, 0)) := (h3.block c (by omega)).trans h4
  have cR := cell_of_one hcw
  have fR := free_of_one hcw
  obtain ⟨hok, hlen⟩ := deal_okN n t
  have C1 := deal_ok a ad n cap n capd (rowOf n) (vecI n t) w hrow hd (by rw [rowOf_len]; omega) (by rw [vecI_len, rowOf_len]) (vecI_ok n t)
  rw [rowOf_len] at C1
  have C1 := Lib.hid C1
  have hrl := rk_lt (t := t) hn
  have hwf : (Lit.int .i64 (rk n t : Int)).wf = true := by
    have : (0 : Int) ≤ (rk n t : Int) := Int.natCast_nonneg _
    simp [Lit.wf, IntKind.min, IntKind.max, IntKind.bits, IntKind.signed]; omega
  have hkey := Maps.keyOf_int_mk (P := Try.prog) Try.underlying3 hwf
  have hnew := keysTo_new hn ht
  have hsz : (keysTo n t).length < maxLen := by
    rw [keysTo_len]; unfold maxLen
    have : fact n ≤ 720 := by
      have : n = 0 ∨ n = 1 ∨ n = 2 ∨ n = 3 ∨ n = 4 ∨ n = 5 ∨ n = 6 := by omega
      rcases this with rfl | rfl | rfl | rfl | rfl | rfl | rfl <;> decide
    omega
  have H := Lib.hid (And.intro h1 (And.intro h2 (And.intro h3 (And.intro h4 (And.intro h5 h6)))))
  have HW := Lib.hid (And.intro hwf (And.intro hkey (And.intro hnew hsz)))
  clear h1 h2 h3 h4 h5 h6 hwf hkey hnew hsz hrow hd
  go_enter Try.func37, Try.ntmps37
  go_wp2_with fail
  refine C1.out.mono ?_
  rintro e v1 ⟨s1, rfl, hO1, hb1⟩
  clear C1
  obtain ⟨a1, cap1, hs1, hT1⟩ := hO1.tab
  rw [List.length_map, hlen] at hs1 hT1
  subst hs1
  have C2 := Lib.hid (digitRank_ok a1 n cap1 (dealTo (rowOf n) (vecI n t) n) v1 hT1 (by rw [hlen]; omega) hok)
  change Hid (Calls _ _ _ _ (fun e w' => e = .returned (.tuple #[.int .i64 ((rk n t : Nat) : Int), .int .i64 0]) ∧ v1 = w')) at C2
  clear hO1 hT1
  have hm1 : v1.heap[b + 1]? = some (.cells #[.map (some b)] 42 (0, 0)) := (hb1.block _ hlm).trans H.out.2.2.2.2.1
  have cM := cell_of_one hm1
  have fM := free_of_one hm1
  have hk1 := H.out.2.2.2.2.2.below hb1
  have L1 := hk1.look_new lawI Try.underlying42 Try.underlying4 (zeroB v1) HW.out.2.1 HW.out.2.2.1
  have HK := Lib.hid hk1
  have HB := Lib.hid hb1
  have HM := Lib.hid hm1
  clear hk1 hb1 hm1
  go_wp2_with fail
  refine C2.out.mono ?_
  rintro e v2 ⟨rfl, rfl⟩
  clear C2
  go_wp2_with (at_mapUpdate; refine wpList_newKey _ rfl _ _ _ 42 rfl 3 4 lawI Try.underlying42 Try.underlying4 b (keysTo n t) rfl HK.out HW.out.2.2.2 _ rfl rfl HW.out.2.1 HW.out.2.2.1 ?_; intro w3 hk3 hg3)
  go_ret
  obtain ⟨h1, h2, h3, h4, h5, h6⟩ := H.out
  have hG := grown_of HB.out hg3
  rw [← keysTo_succ] at hk3
  exact ⟨rfl, ⟨h1, h2, h3.grown hG (by omega) (fun j hj => by cases hj; exact Nat.le_refl _), h4, (hG.block _ hlm (fun e => by have := Option.some.inj e; omega)).trans h5, hk3⟩, hG⟩

end Digit
end Go.Proofs.Ytanfkolcoaofdaa
