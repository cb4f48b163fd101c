/- The contract of the document's own comparison of sketches (culref.SameBottom). -/
import Derived.Test.YtffgoekdjcempabGr24
import Derived.Test.YtffgoekdjcempabGr8
namespace Go.Proofs.Ytffgoekdjcempab
open Go.ChangeShapes Go.WideShapes Go.ChangeAt Go.RowKit
open Least

set_option maxRecDepth 100000 in
set_option maxHeartbeats 1000000 in
theorem sameB_any (K K2 : Int) (a b : Option Addr) (la ca lb cb : Nat) (l m : List Int) (w : World) (h1 : Tab w a la ca 1 (l.map iC)) (h2 : Tab w b lb cb 1 (m.map iC)) (c : Bool) (hc : c = true ↔ K = K2 ∧ l = m) :
    Calls Try.prog 40 #[bottomV K a la ca, bottomV K2 b lb cb] w fun e w' => e = .returned (.bool c) ∧ Below w.heap.size w w' := by
  unfold bottomV
  have hbx : Below w.heap.size w ((w.alloc (.cells #[.int .i64 K, .slice a la ca] 69)).alloc (.cells #[.int .i64 K2, .slice b lb cb] 69)) := ((Below.refl _ _).alloc (Nat.le_refl _) _).alloc (by simp) _
  have HBX := Lib.hid hbx
  by_cases hk : K = K2
  · subst hk
    have HQ := Lib.hid (equal_ints a b la ca lb cb l m _ (h1.below hbx) (h2.below hbx) c (by rw [hc]; simp))
    have t1 : (K == K) = true := by simp
    clear h1 h2 hc hbx
    go_enter Try.func40, Try.ntmps40
    go_wp2_with fail
    refine HQ.out.mono ?_
    rintro e w1 ⟨rfl, hb1⟩
    have HB1 := Lib.hid (below_on HBX.out hb1)
    clear hb1 HQ
    go_wp2
    go_ret
    exact ⟨rfl, HB1.out⟩
  · obtain rfl : c = false := by
      cases c with
      | false => rfl
      | true => exact absurd (hc.1 rfl).1 hk
    have t1 : (K == K2) = false := by simpa using hk
    clear h1 h2 hc hbx hk
    go_enter Try.func40, Try.ntmps40
    go_wp2
    go_ret
    exact ⟨rfl, HBX.out⟩
end Go.Proofs.Ytffgoekdjcempab
