/- The contract of the document's own comparison of filters (culref.SameFilter). -/
import Derived.Test.YtffgoekdjcempabBloomPut
import Derived.Test.YtffgoekdjcempabEqualBools
namespace Go.Proofs.Ytffgoekdjcempab
open Go.ChangeShapes Go.WideShapes Go.ChangeAt Go.RowKit
open Bloom

set_option maxRecDepth 100000 in
set_option maxHeartbeats 1000000 in
theorem sameF_any (S K S2 K2 : Int) (a b : Option Addr) (la ca lb cb : Nat) (l m : List Bool) (w : World) (h1 : Tab w a la ca 1 (l.map bC)) (h2 : Tab w b lb cb 1 (m.map bC)) (c : Bool) (hc : c = true ↔ S = S2 ∧ K = K2 ∧ l = m) :
    Calls Try.prog 15 #[.agg #[.int .i64 S, .int .i64 K, .slice a la ca], .agg #[.int .i64 S2, .int .i64 K2, .slice b lb cb]] w fun e w' => e = .returned (.bool c) ∧ Below w.heap.size w w' := by
  have hbx : Below w.heap.size w ((w.alloc (.cells #[.int .i64 S, .int .i64 K, .slice a la ca] 24)).alloc (.cells #[.int .i64 S2, .int .i64 K2, .slice b lb cb] 24)) := ((Below.refl _ _).alloc (Nat.le_refl _) _).alloc (by simp) _
  have HBX := Lib.hid hbx
  by_cases hk : S = S2
  · subst hk
    have t1 : (S == S) = true := by simp
    by_cases hk2 : K = K2
    · subst hk2
      have HQ := Lib.hid (equal_bools a b la ca lb cb l m _ (h1.below hbx) (h2.below hbx) c (by rw [hc]; simp))
      have t2 : (K == K) = true := by simp
      clear h1 h2 hc hbx
      go_enter Try.func15, Try.ntmps15
      go_wp2_with fail
      refine HQ.out.mono ?_
      rintro e w1 ⟨rfl, hb1⟩
      have HB1 := Lib.hid (below_on HBX.out hb1)
      clear hb1 HQ
      go_wp2
      go_ret
      exact ⟨rfl, HB1.out⟩
    · obtain rfl : c = false := by
        cases c with
        | false => rfl
        | true => exact absurd (hc.1 rfl).2.1 hk2
      have t2 : (K == K2) = false := by simpa using hk2
      clear h1 h2 hc hbx hk2
      go_enter Try.func15, Try.ntmps15
      go_wp2
      go_ret
      exact ⟨rfl, HBX.out⟩
  · obtain rfl : c = false := by
      cases c with
      | false => rfl
      | true => exact absurd (hc.1 rfl).1 hk
    have t1 : (S == S2) = false := by simpa using hk
    clear h1 h2 hc hbx hk
    go_enter Try.func15, Try.ntmps15
    go_wp2
    go_ret
    exact ⟨rfl, HBX.out⟩
end Go.Proofs.Ytffgoekdjcempab
