/- The contract of the document's own comparison of sketches of what comes often (culref.SameFew). -/
import Derived.Test.YtffgoekdjcempaaGreatFewBox
import Derived.Test.YtffgoekdjcempaaGreatEqualCounters
namespace Go.Proofs.YtffgoekdjcempaaGreat
open Go.ChangeShapes Go.WideShapes Go.ChangeAt Go.RowKit
open Few

set_option maxRecDepth 100000 in
set_option maxHeartbeats 1000000 in
theorem sameFew_any (K K2 L L2 : Int) (a b : Option Addr) (la ca lb cb : Nat) (l m : List (Int × Int)) (w : World) (h1 : Tab w a la ca 2 (l.map iiC)) (h2 : Tab w b lb cb 2 (m.map iiC)) (c : Bool) (hc : c = true ↔ K = K2 ∧ L = L2 ∧ l = m) :
    Calls Tryz.prog 9 #[fewV K L a la ca, fewV K2 L2 b lb cb] w fun e w' => e = .returned (.bool c) ∧ Below w.heap.size w w' := by
  unfold fewV
  have hbx : Below w.heap.size w ((w.alloc (.cells #[.int .i64 K, .int .i64 L, .slice a la ca] 24)).alloc (.cells #[.int .i64 K2, .int .i64 L2, .slice b lb cb] 24)) := ((Below.refl _ _).alloc (Nat.le_refl _) _).alloc (by simp) _
  have HBX := Lib.hid hbx
  by_cases hk : K = K2
  · subst hk
    have t1 : (K == K) = true := by simp
    by_cases hl : L = L2
    · subst hl
      have HQ := Lib.hid (equal_counters a b la ca lb cb l m _ (h1.below hbx) (h2.below hbx) c (by rw [hc]; simp))
      have t2 : (L == L) = true := by simp
      clear h1 h2 hc hbx
      go_enter Tryz.func9, Tryz.ntmps9
      go_wp2_with fail
      refine HQ.out.mono ?_
      rintro e w1 ⟨rfl, hb1⟩
      have HB1 := Lib.hid (below_on HBX.out hb1)
      clear hb1 HQ
      go_wp2
      go_ret
      exact ⟨rfl, HB1.out⟩
    · obtain rfl : c = false := by
        cases c with
        | false => rfl
        | true => exact absurd (hc.1 rfl).2.1 hl
      have t2 : (L == L2) = false := by simpa using hl
      clear h1 h2 hc hbx hl
      go_enter Tryz.func9, Tryz.ntmps9
      go_wp2
      go_ret
      exact ⟨rfl, HBX.out⟩
  · obtain rfl : c = false := by
      cases c with
      | false => rfl
      | true => exact absurd (hc.1 rfl).1 hk
    have t1 : (K == K2) = false := by simpa using hk
    clear h1 h2 hc hbx hk
    go_enter Tryz.func9, Tryz.ntmps9
    go_wp2
    go_ret
    exact ⟨rfl, HBX.out⟩
end Go.Proofs.YtffgoekdjcempaaGreat
