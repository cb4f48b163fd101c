/- sort.heapSort and sort.reverseRange over any value that sort.Sort can take. -/
import Derived.Test.YtffgoekdjcempaaGreatSrtHeap
namespace Go.Proofs.YtffgoekdjcempaaGreat
open Go.ChangeShapes Go.WideShapes Go.ChangeAt Go.RowKit

variable {S : World → Array Int → Prop} {base : Nat} {T : TypeId} {rv : Value} {lt : Int → Int → Bool} {n : Nat}

theorem build_step (lt : Int → Int → Bool) (hi first k : Nat) (d : Array Int) : Sort.heapBuild lt hi first (k + 1) d = Sort.heapBuild lt hi first k (Sort.siftDown lt hi first k d) := rfl
theorem pop_step (lt : Int → Int → Bool) (first k : Nat) (d : Array Int) : Sort.heapPop lt first (k + 1) d = Sort.heapPop lt first k (Sort.siftDown lt k first 0 (Sort.swp d first (first + k))) := rfl

set_option maxRecDepth 100000 in
set_option maxHeartbeats 4000000 in
theorem heapSort_s (H : Srt S base T rv lt n) (a b : Nat) (d : Array Int) (w : World) (hS : S w d) (hab : a < b) (hb : b ≤ n) :
    Calls Tryz.prog 71 #[.iface T rv, .int .i64 a, .int .i64 b] w fun e w' => e = .returned (.tuple #[]) ∧ S w' (Sort.heapSort lt d a b) := by
  have hm := H.most
  have HS0 := Lib.hid hS
  have HH := Lib.hid H
  clear H hS
  unfold Sort.heapSort
  obtain ⟨E, hE⟩ : ∃ E, Sort.heapBuild lt (b - a) a ((b - a - 1) / 2 + 1) d = E := ⟨_, rfl⟩
  rw [hE]
  have HE0 := Lib.hid hE
  obtain ⟨D, hD⟩ : ∃ D, Sort.heapPop lt a (b - a) E = D := ⟨_, rfl⟩
  rw [hD]
  have HD0 := Lib.hid hD
  clear hD hE
  have hq : Int.tdiv ((b : Int) - (a : Int) - 1) 2 = (((b - a - 1) / 2 : Nat) : Int) := by rw [Int.tdiv_eq_ediv_of_nonneg (by omega)]; omega
  go_enter Tryz.func71, Tryz.ntmps71
  go_wp2
  go_loopg [9] ((b - a - 1) / 2 + 1) (fun g x wr => ∃ (dk : Array Int), x = .int .i64 ((g : Int) - 1) ∧ g ≤ (b - a - 1) / 2 + 1 ∧ Hid (Sort.heapBuild lt (b - a) a g dk = E) ∧ Hid (S wr dk))
  case atStart => exact ⟨d, by congr 1; omega, Nat.le_refl _, HE0, HS0⟩
  case round =>
    clear HE0 HS0 hq
    obtain ⟨dk, rfl, hg, HE, HS⟩ := hrel
    cases gk with
    | succ g =>
      rw [build_step] at HE
      have CD := Lib.hid (siftDown_s HH.out g (b - a) a dk wr HS.out (by omega) (by omega))
      have hi1 : ((g + 1 : Nat) : Int) - 1 = (g : Int) := by omega
      rw [hi1]
      have hba : ((b - a : Nat) : Int) = (b : Int) - (a : Int) := by omega
      rw [hba] at CD
      clear hi1
      go_wp2_with fail
      refine CD.out.mono ?_
      rintro e w1 ⟨rfl, hs1⟩
      have HS1 := Lib.hid hs1
      clear hs1
      go_wp2
      go_roundg g
      case measure => omega
      case rel => exact ⟨_, by go_num, by omega, HE, HS1⟩
    | zero =>
      obtain rfl : dk = E := HE.out
      go_wp2
      go_loopg [10] (b - a) (fun g x wr => ∃ (dk : Array Int), x = .int .i64 ((g : Int) - 1) ∧ g ≤ b - a ∧ Hid (Sort.heapPop lt a g dk = D) ∧ Hid (S wr dk))
      case atStart => exact ⟨dk, by congr 1; omega, Nat.le_refl _, HD0, HS⟩
      case round =>
        clear HD0 HS hg HE
        obtain ⟨dk, rfl, hg, HD, HS⟩ := hrel
        cases gk with
        | succ g =>
          rw [pop_step] at HD
          have hi1 : ((g + 1 : Nat) : Int) - 1 = (g : Int) := by omega
          rw [hi1]
          obtain ⟨f, r, mS, eS, cS⟩ := HH.out.swap a (a + g) HS.out (by omega) (by omega)
          have CS := Lib.hid cS
          clear hi1 cS
          go_wp2_with (first
            | (go_at_fn f; refine CS.out.mono ?_; rintro e w1 ⟨rfl, hs1, _⟩; have HS1 := Lib.hid hs1; have CD := Lib.hid (siftDown_s HH.out 0 g a _ w1 hs1 (by omega) (by omega)); clear hs1)
            | (go_at_call 85; refine CD.out.mono ?_; rintro e w2 ⟨rfl, hs2⟩; have HS2 := Lib.hid hs2; clear hs2))
          go_roundg g
          case measure => omega
          case rel => exact ⟨_, by go_num, by omega, HD, HS2⟩
        | zero =>
          obtain rfl : dk = D := HD.out
          go_wp2
          go_end0
          exact ⟨rfl, HS.out⟩

theorem rev_stop {i j : Nat} (d : Array Int) (h : ¬ i < j) : Sort.reverseLoop i j d = d := by rw [Sort.reverseLoop.eq_def, if_neg h]
theorem rev_step {i j : Nat} (d : Array Int) (h : i < j) : Sort.reverseLoop i j d = Sort.reverseLoop (i + 1) (j - 1) (Sort.swp d i j) := by rw [Sort.reverseLoop.eq_def, if_pos h]

set_option maxRecDepth 100000 in
set_option maxHeartbeats 4000000 in
theorem reverseRange_s (H : Srt S base T rv lt n) (a b : Nat) (d : Array Int) (w : World) (hS : S w d) (hab : a < b) (hb : b ≤ n) :
    Calls Tryz.prog 74 #[.iface T rv, .int .i64 a, .int .i64 b] w fun e w' => e = .returned (.tuple #[]) ∧ S w' (Sort.reverseRange d a b) := by
  have hm := H.most
  have HS0 := Lib.hid hS
  have HH := Lib.hid H
  clear H hS
  unfold Sort.reverseRange
  obtain ⟨D, hD⟩ : ∃ D, Sort.reverseLoop a (b - 1) d = D := ⟨_, rfl⟩
  rw [hD]
  have HD0 := Lib.hid hD
  clear hD
  go_enter Tryz.func74, Tryz.ntmps74
  go_wp2
  go_loopg [6, 7] n (fun g x y wr => ∃ (i j : Nat) (dk : Array Int), x = .int .i64 i ∧ y = .int .i64 j ∧ j < n ∧ i ≤ n ∧ j - i ≤ g ∧ Hid (Sort.reverseLoop i j dk = D) ∧ Hid (S wr dk))
  case atStart => exact ⟨a, b - 1, d, rfl, by congr 1; omega, by omega, by omega, by omega, HD0, HS0⟩
  case round =>
    clear HD0 HS0
    obtain ⟨i, j, dk, rfl, rfl, hj, hi, hg, HD, HS⟩ := hrel
    by_cases hij : i < j
    · rw [rev_step dk hij] at HD
      obtain ⟨f, r, mS, eS, cS⟩ := HH.out.swap i j HS.out (by omega) (by omega)
      have CS := Lib.hid cS
      clear cS
      go_wp2_with (go_at_fn f; refine CS.out.mono ?_; rintro e w1 ⟨rfl, hs1, _⟩; have HS1 := Lib.hid hs1; clear hs1)
      go_roundg (gk - 1)
      case measure => omega
      case rel => exact ⟨i + 1, j - 1, _, by go_num, by go_num, by omega, by omega, by omega, HD, HS1⟩
    · rw [rev_stop dk hij] at HD
      obtain rfl : dk = D := HD.out
      go_wp2
      go_end0
      exact ⟨rfl, HS.out⟩
end Go.Proofs.YtffgoekdjcempaaGreat
