/- sort.siftDown over any value that sort.Sort can take. -/
import Derived.Test.YtffgoekdjcempaaGreatSrtBase
namespace Go.Proofs.YtffgoekdjcempaaGreat
open Go.ChangeShapes Go.WideShapes Go.ChangeAt Go.RowKit

def kid (lt : Int → Int → Bool) (hi first root : Nat) (d : Array Int) : Nat := if (2 * root + 2 < hi && lt d[first + (2 * root + 1)]! d[first + (2 * root + 1) + 1]!) = true then 2 * root + 2 else 2 * root + 1
theorem sift_stop (lt : Int → Int → Bool) {hi first root : Nat} {d : Array Int} (h : hi ≤ 2 * root + 1) : Sort.siftDown lt hi first root d = d := by
  rw [Sort.siftDown.eq_def, dif_pos h]
theorem sift_step (lt : Int → Int → Bool) {hi first root : Nat} {d : Array Int} (h : 2 * root + 1 < hi) :
    Sort.siftDown lt hi first root d = if lt d[first + root]! d[first + kid lt hi first root d]! = true then Sort.siftDown lt hi first (kid lt hi first root d) (Sort.swp d (first + root) (first + kid lt hi first root d)) else d := by
  rw [Sort.siftDown.eq_def, dif_neg (by omega)]
  unfold kid
  by_cases h1 : (decide (2 * root + 1 + 1 < hi) && lt d[first + (2 * root + 1)]! d[first + (2 * root + 1) + 1]!) = true
  · have h2 : 2 * root + 2 < hi := by
      rw [Bool.and_eq_true, decide_eq_true_iff] at h1
      omega
    rw [if_pos h1, if_pos (show (decide (2 * root + 2 < hi) && lt d[first + (2 * root + 1)]! d[first + (2 * root + 1) + 1]!) = true from h1), dif_pos h2]
    cases lt d[first + root]! d[first + (2 * root + 2)]! <;> rfl
  · rw [if_neg h1, if_neg (show ¬ (decide (2 * root + 2 < hi) && lt d[first + (2 * root + 1)]! d[first + (2 * root + 1) + 1]!) = true from h1)]
    cases lt d[first + root]! d[first + (2 * root + 1)]! <;> rfl

variable {S : World → Array Int → Prop} {base : Nat} {T : TypeId} {rv : Value} {lt : Int → Int → Bool} {n : Nat}

set_option maxRecDepth 100000 in
set_option maxHeartbeats 4000000 in
theorem siftDown_s (H : Srt S base T rv lt n) (lo hi first : Nat) (d : Array Int) (w : World) (hS : S w d) (hl : lo ≤ hi) (hf : first + hi ≤ n) :
    Calls Tryz.prog 85 #[.iface T rv, .int .i64 lo, .int .i64 hi, .int .i64 first] w fun e w' => e = .returned (.tuple #[]) ∧ S w' (Sort.siftDown lt hi first lo d) := by
  have hm := H.most
  have HS0 := Lib.hid hS
  have HH := Lib.hid H
  clear H hS
  obtain ⟨D, hD⟩ : ∃ D, Sort.siftDown lt hi first lo d = D := ⟨_, rfl⟩
  rw [hD]
  have HD0 := Lib.hid hD
  clear hD
  go_enter Tryz.func85, Tryz.ntmps85
  go_wp2
  go_loopg [8] (hi - lo) (fun g x wr => ∃ (root : Nat) (dk : Array Int), x = .int .i64 root ∧ root + g = hi ∧ Hid (Sort.siftDown lt hi first root dk = D) ∧ Hid (S wr dk))
  case atStart => exact ⟨lo, d, rfl, by omega, HD0, HS0⟩
  case round =>
    clear HD0 HS0
    obtain ⟨root, dk, rfl, hrg, HD, HS⟩ := hrel
    by_cases h1 : hi ≤ 2 * root + 1
    · rw [sift_stop lt h1] at HD
      obtain rfl : dk = D := HD.out
      go_wp2
      go_end0
      exact ⟨rfl, HS.out⟩
    have h1' : 2 * root + 1 < hi := by omega
    have HK := HD.out
    rw [sift_step lt h1'] at HK
    by_cases h2 : 2 * root + 2 < hi
    · obtain ⟨f, r, mL, eL, cL⟩ := HH.out.less (first + (2 * root + 1)) (first + (2 * root + 1) + 1) HS.out (by omega) (by omega)
      obtain ⟨t, ht⟩ : ∃ t, lt dk[first + (2 * root + 1)]! dk[first + (2 * root + 1) + 1]! = t := ⟨_, rfl⟩
      rw [ht] at cL
      have CL := Lib.hid cL
      cases t
      · have hk : kid lt hi first root dk = 2 * root + 1 := by unfold kid; rw [ht, Bool.and_false, if_neg (by decide)]
        rw [hk] at HK
        have HK2 := Lib.hid HK
        clear HK hk ht cL HD h1
        obtain ⟨u, hu⟩ : ∃ u, lt dk[first + root]! dk[first + (2 * root + 1)]! = u := ⟨_, rfl⟩
        rw [hu] at HK2
        have HU := Lib.hid hu
        clear hu
        cases u
        · rw [if_neg (by decide)] at HK2
          obtain rfl : dk = D := HK2.out
          go_wp2_with (first
            | (go_at_fn f; refine CL.out.mono ?_; rintro e w1 ⟨rfl, hb1⟩; have HS1 := Lib.hid (HH.out.on HS.out hb1); obtain ⟨f1, r1, m1, e1, cL1⟩ := HH.out.less (first + root) (first + (2 * root + 1)) HS1.out (by omega) (by omega); rw [HU.out] at cL1; have CL1 := Lib.hid cL1; clear hb1 cL1)
            | (go_at_fn f1; refine CL1.out.mono ?_; rintro e w2 ⟨rfl, hb2⟩; have HS2 := Lib.hid (HH.out.on HS1.out hb2); clear hb2))
          refine bodyPost_ret (results_none rfl _ _ _) rfl ?_
          exact ⟨rfl, HS2.out⟩
        · rw [if_pos rfl] at HK2
          go_wp2_with (first
            | (go_at_fn f; refine CL.out.mono ?_; rintro e w1 ⟨rfl, hb1⟩; have HS1 := Lib.hid (HH.out.on HS.out hb1); obtain ⟨f1, r1, m1, e1, cL1⟩ := HH.out.less (first + root) (first + (2 * root + 1)) HS1.out (by omega) (by omega); rw [HU.out] at cL1; have CL1 := Lib.hid cL1; clear hb1 cL1)
            | (go_at_fn f1; refine CL1.out.mono ?_; rintro e w2 ⟨rfl, hb2⟩; have HS2 := Lib.hid (HH.out.on HS1.out hb2); obtain ⟨f2, r2, mS, eS, cS⟩ := HH.out.swap (first + root) (first + (2 * root + 1)) HS2.out (by omega) (by omega); have CS := Lib.hid cS; clear hb2 cS)
            | (go_at_fn f2; refine CS.out.mono ?_; rintro e w3 ⟨rfl, hs3, _⟩; have HS3 := Lib.hid hs3; clear hs3))
          go_roundg (hi - (2 * root + 1))
          case measure => omega
          case rel => exact ⟨2 * root + 1, _, by go_num, by omega, HK2, HS3⟩
      · have hk : kid lt hi first root dk = 2 * root + 2 := by unfold kid; rw [ht, Bool.and_true, if_pos (decide_eq_true h2)]
        rw [hk] at HK
        have HK2 := Lib.hid HK
        clear HK hk ht cL HD h1
        obtain ⟨u, hu⟩ : ∃ u, lt dk[first + root]! dk[first + (2 * root + 2)]! = u := ⟨_, rfl⟩
        rw [hu] at HK2
        have HU := Lib.hid hu
        clear hu
        cases u
        · rw [if_neg (by decide)] at HK2
          obtain rfl : dk = D := HK2.out
          go_wp2_with (first
            | (go_at_fn f; refine CL.out.mono ?_; rintro e w1 ⟨rfl, hb1⟩; have HS1 := Lib.hid (HH.out.on HS.out hb1); obtain ⟨f1, r1, m1, e1, cL1⟩ := HH.out.less (first + root) (first + (2 * root + 2)) HS1.out (by omega) (by omega); rw [HU.out] at cL1; have CL1 := Lib.hid cL1; clear hb1 cL1)
            | (go_at_fn f1; refine CL1.out.mono ?_; rintro e w2 ⟨rfl, hb2⟩; have HS2 := Lib.hid (HH.out.on HS1.out hb2); clear hb2))
          refine bodyPost_ret (results_none rfl _ _ _) rfl ?_
          exact ⟨rfl, HS2.out⟩
        · rw [if_pos rfl] at HK2
          go_wp2_with (first
            | (go_at_fn f; refine CL.out.mono ?_; rintro e w1 ⟨rfl, hb1⟩; have HS1 := Lib.hid (HH.out.on HS.out hb1); obtain ⟨f1, r1, m1, e1, cL1⟩ := HH.out.less (first + root) (first + (2 * root + 2)) HS1.out (by omega) (by omega); rw [HU.out] at cL1; have CL1 := Lib.hid cL1; clear hb1 cL1)
            | (go_at_fn f1; refine CL1.out.mono ?_; rintro e w2 ⟨rfl, hb2⟩; have HS2 := Lib.hid (HH.out.on HS1.out hb2); obtain ⟨f2, r2, mS, eS, cS⟩ := HH.out.swap (first + root) (first + (2 * root + 2)) HS2.out (by omega) (by omega); have CS := Lib.hid cS; clear hb2 cS)
            | (go_at_fn f2; refine CS.out.mono ?_; rintro e w3 ⟨rfl, hs3, _⟩; have HS3 := Lib.hid hs3; clear hs3))
          go_roundg (hi - (2 * root + 2))
          case measure => omega
          case rel => exact ⟨2 * root + 2, _, by go_num, by omega, HK2, HS3⟩
    · have hk : kid lt hi first root dk = 2 * root + 1 := by unfold kid; rw [decide_eq_false h2, Bool.false_and, if_neg (by decide)]
      rw [hk] at HK
      have HK2 := Lib.hid HK
      clear HK hk HD h1
      obtain ⟨f, r, mL, eL, cL⟩ := HH.out.less (first + root) (first + (2 * root + 1)) HS.out (by omega) (by omega)
      obtain ⟨t, ht⟩ : ∃ t, lt dk[first + root]! dk[first + (2 * root + 1)]! = t := ⟨_, rfl⟩
      rw [ht] at cL HK2
      have CL := Lib.hid cL
      clear cL ht
      cases t
      · rw [if_neg (by decide)] at HK2
        obtain rfl : dk = D := HK2.out
        go_wp2_with (go_at_fn f; refine CL.out.mono ?_; rintro e w1 ⟨rfl, hb1⟩; have HS1 := Lib.hid (HH.out.on HS.out hb1); clear hb1)
        refine bodyPost_ret (results_none rfl _ _ _) rfl ?_
        exact ⟨rfl, HS1.out⟩
      · rw [if_pos rfl] at HK2
        go_wp2_with (first
          | (go_at_fn f; refine CL.out.mono ?_; rintro e w1 ⟨rfl, hb1⟩; have HS1 := Lib.hid (HH.out.on HS.out hb1); obtain ⟨f2, r2, mS, eS, cS⟩ := HH.out.swap (first + root) (first + (2 * root + 1)) HS1.out (by omega) (by omega); have CS := Lib.hid cS; clear hb1 cS)
          | (go_at_fn f2; refine CS.out.mono ?_; rintro e w2 ⟨rfl, hs2, _⟩; have HS2 := Lib.hid hs2; clear hs2))
        go_roundg (hi - (2 * root + 1))
        case measure => omega
        case rel => exact ⟨2 * root + 1, _, by go_num, by omega, HK2, HS2⟩
end Go.Proofs.YtffgoekdjcempaaGreat
