/- sort.partitionEqual and sort.partition over any value that sort.Sort can take. -/
import Derived.Test.YtffgoekdjcempaaGreatSrtBase
namespace Go.Proofs.YtffgoekdjcempaaGreat
open Go.ChangeShapes Go.WideShapes Go.ChangeAt Go.RowKit

namespace Split
theorem up_stop {p : Int → Bool} {d : Array Int} {j i : Nat} (h : ¬ i ≤ j ∨ p d[i]! = false) : Sort.scanUp p d j i = i := by
  rw [Sort.scanUp.eq_def, if_neg]
  intro hh
  rw [Bool.and_eq_true, decide_eq_true_iff] at hh
  rcases h with h | h
  · exact h hh.1
  · rw [h] at hh
    exact absurd hh.2 (by decide)
theorem up_step {p : Int → Bool} {d : Array Int} {j i : Nat} (h1 : i ≤ j) (h2 : p d[i]! = true) : Sort.scanUp p d j i = Sort.scanUp p d j (i + 1) := by
  conv => lhs; rw [Sort.scanUp.eq_def, if_pos (by rw [h2, decide_eq_true h1]; rfl)]
theorem up_ge {p : Int → Bool} {d : Array Int} {j : Nat} : ∀ (g i : Nat), j + 1 - i ≤ g → i ≤ Sort.scanUp p d j i ∧ (i ≤ j + 1 → Sort.scanUp p d j i ≤ j + 1)
  | 0, i, h => by rw [up_stop (Or.inl (by omega))]; omega
  | g + 1, i, h => by
    by_cases h1 : i ≤ j
    · cases hp : p d[i]! with
      | true =>
        rw [up_step h1 hp]
        have := up_ge (p := p) (d := d) (j := j) g (i + 1) (by omega)
        omega
      | false => rw [up_stop (Or.inr hp)]; omega
    · rw [up_stop (Or.inl h1)]; omega
theorem down_stop {p : Int → Bool} {d : Array Int} {j i : Nat} (h : ¬ i ≤ j ∨ p d[j]! = false) : Sort.scanDown p d i j = j := by
  cases j with
  | zero => rfl
  | succ j =>
    rw [Sort.scanDown, if_neg]
    intro hh
    rw [Bool.and_eq_true, decide_eq_true_iff] at hh
    rcases h with h | h
    · exact h hh.1
    · rw [h] at hh
      exact absurd hh.2 (by decide)
theorem down_step {p : Int → Bool} {d : Array Int} {j i : Nat} (h1 : i ≤ j + 1) (h2 : p d[j + 1]! = true) : Sort.scanDown p d i (j + 1) = Sort.scanDown p d i j := by
  rw [Sort.scanDown, if_pos (by rw [h2, decide_eq_true h1]; rfl)]
theorem down_le {p : Int → Bool} {d : Array Int} {i : Nat} : ∀ j, Sort.scanDown p d i j ≤ j ∧ (i ≤ j + 1 → i ≤ Sort.scanDown p d i j + 1)
  | 0 => by rw [Sort.scanDown]; omega
  | j + 1 => by
    rw [Sort.scanDown]
    split
    · rename_i hh
      rw [Bool.and_eq_true, decide_eq_true_iff] at hh
      have := down_le (p := p) (d := d) (i := i) j
      omega
    · omega
end Split

variable {S : World → Array Int → Prop} {base : Nat} {T : TypeId} {rv : Value} {lt : Int → Int → Bool} {n : Nat}
open Split

theorem eqLoop_def (lt : Int → Int → Bool) {a i j : Nat} (d : Array Int) (hi : i ≤ j + 1) (i2 j2 : Nat) (h2 : Sort.scanUp (fun x => !lt d[a]! x) d j i = i2) (h3 : Sort.scanDown (fun x => lt d[a]! x) d i2 j = j2) :
    Sort.partEqLoop lt a i j d = if i2 > j2 then (i2, d) else Sort.partEqLoop lt a (i2 + 1) (j2 - 1) (Sort.swp d i2 j2) := by
  have u := up_ge (p := fun x => !lt d[a]! x) (d := d) (j := j) _ i (Nat.le_refl _)
  rw [h2] at u
  have v := down_le (p := fun x => lt d[a]! x) (d := d) (i := i2) j
  rw [h3] at v
  rw [Sort.partEqLoop.eq_def]
  simp only [h2, h3]
  by_cases hgt : i2 > j2
  · rw [if_pos hgt, if_pos hgt]
  · rw [if_neg hgt, if_neg hgt, dif_pos (by omega)]

set_option maxRecDepth 100000 in
set_option maxHeartbeats 4000000 in
theorem partitionEqual_s (H : Srt S base T rv lt n) (a b pivot : Nat) (d : Array Int) (w : World) (hS : S w d) (hab : a < b) (hb : b ≤ n) (hp : pivot < n) :
    Calls Tryz.prog 76 #[.iface T rv, .int .i64 a, .int .i64 b, .int .i64 pivot] w fun e w' =>
      e = .returned (.int .i64 ((Sort.partitionEqual lt d a b pivot).1 : Nat)) ∧ S w' (Sort.partitionEqual lt d a b pivot).2 := by
  have hm := H.most
  unfold Sort.partitionEqual
  obtain ⟨f0, r0, m0, e0, c0⟩ := H.swap a pivot hS (by omega) hp
  have C0 := Lib.hid c0
  have HH := Lib.hid H
  generalize Sort.swp d a pivot = d0 at *
  obtain ⟨D, hD⟩ : ∃ D, Sort.partEqLoop lt a (a + 1) (b - 1) d0 = D := ⟨_, rfl⟩
  rw [hD]
  have HD0 := Lib.hid hD
  clear H hS c0 hD
  go_enter Tryz.func76, Tryz.ntmps76
  go_wp2_with (go_at_fn f0; refine C0.out.mono ?_; rintro e w1 ⟨rfl, hs1, _⟩; have HS1 := Lib.hid hs1; clear hs1)
  clear m0 e0 C0
  go_loopg [9, 10] n (fun g x y wr => ∃ (i j : Nat) (dk : Array Int), x = .int .i64 i ∧ y = .int .i64 j ∧ a < i ∧ i ≤ j + 1 ∧ j < b ∧ j + 1 - i ≤ g ∧ Hid (Sort.partEqLoop lt a i j dk = D) ∧ Hid (S wr dk))
  case atStart => exact ⟨a + 1, b - 1, d0, by go_num, by congr 1; omega, by omega, by omega, by omega, by omega, HD0, HS1⟩
  case round =>
    clear HD0 HS1
    obtain ⟨i, j, dk, rfl, rfl, hai, hij, hjb, hg, HD, HS⟩ := hrel
    obtain ⟨i2, hi2⟩ : ∃ i2, Sort.scanUp (fun x => !lt dk[a]! x) dk j i = i2 := ⟨_, rfl⟩
    obtain ⟨j2, hj2⟩ : ∃ j2, Sort.scanDown (fun x => lt dk[a]! x) dk i2 j = j2 := ⟨_, rfl⟩
    have hdd := HD.out
    rw [eqLoop_def lt dk hij i2 j2 hi2 hj2] at hdd
    have HDD := Lib.hid hdd
    have hu := up_ge (p := fun x => !lt dk[a]! x) (d := dk) (j := j) _ i (Nat.le_refl _)
    rw [hi2] at hu
    have hu1 := hu.1
    have hu2 := hu.2 hij
    have hv := down_le (p := fun x => lt dk[a]! x) (d := dk) (i := i2) j
    rw [hj2] at hv
    have hv1 := hv.1
    have hv2 := hv.2 hu2
    have HI0 := Lib.hid hi2
    have HJ0 := Lib.hid hj2
    clear hi2 hj2 hdd HD hu hv
    go_wp2
    go_loopg [9] (j + 1 - i) (fun g x wr => ∃ (k : Nat), x = .int .i64 k ∧ i ≤ k ∧ k ≤ j + 1 ∧ j + 1 - k ≤ g ∧ Hid (Sort.scanUp (fun x => !lt dk[a]! x) dk j k = i2) ∧ Hid (S wr dk))
    case atStart => exact ⟨i, rfl, Nat.le_refl _, hij, Nat.le_refl _, HI0, HS⟩
    case round =>
      clear HI0 HS
      obtain ⟨k, rfl, hik, hkj, hkg, HI, HS⟩ := hrel
      by_cases hle : k ≤ j
      · obtain ⟨f, r, mL, eL, cL⟩ := HH.out.less a k HS.out (by omega) (by omega)
        obtain ⟨t, ht⟩ : ∃ t, lt dk[a]! dk[k]! = t := ⟨_, rfl⟩
        rw [ht] at cL
        have CL := Lib.hid cL
        clear cL
        cases t
        · have HI2 := Lib.hid (by rw [← HI.out]; exact (up_step (p := fun x => !lt dk[a]! x) hle (by simp only [ht]; rfl)).symm : Sort.scanUp (fun x => !lt dk[a]! x) dk j (k + 1) = i2)
          clear HI ht
          go_wp2_with (go_at_fn f; refine CL.out.mono ?_; rintro e w1 ⟨rfl, hb1⟩; have HS1 := Lib.hid (HH.out.on HS.out hb1); clear hb1)
          go_roundg (j + 1 - (k + 1))
          case measure => omega
          case rel => exact ⟨k + 1, by go_num, by omega, by omega, by omega, HI2, HS1⟩
        · have hst := up_stop (p := fun x => !lt dk[a]! x) (d := dk) (j := j) (i := k) (Or.inr (by simp only [ht]; rfl))
          rw [HI.out] at hst
          have hk2 : i2 = k := hst
          have HT1 := Lib.hid (show lt dk[a]! dk[i2]! = true from by rw [hk2]; exact ht)
          subst hk2
          clear HI ht
          go_wp2_with (go_at_fn f; refine CL.out.mono ?_; rintro e w1 ⟨rfl, hb1⟩; have HS1 := Lib.hid (HH.out.on HS.out hb1); clear hb1)
          go_loopg [10] (j + 1) (fun g x wr => ∃ (k : Nat), x = .int .i64 k ∧ i2 ≤ k + 1 ∧ k ≤ j ∧ k + 1 ≤ g ∧ Hid (Sort.scanDown (fun x => lt dk[a]! x) dk i2 k = j2) ∧ Hid (S wr dk))
          case atStart => exact ⟨j, rfl, hu2, Nat.le_refl _, Nat.le_refl _, HJ0, HS1⟩
          case round =>
            clear HJ0 HS1
            obtain ⟨k, rfl, hik2, hkj2, hkg2, HJ, HS⟩ := hrel
            by_cases hle : i2 ≤ k
            · obtain ⟨m, rfl⟩ : ∃ m, k = m + 1 := ⟨k - 1, by omega⟩
              obtain ⟨f, r, mL, eL, cL⟩ := HH.out.less a (m + 1) HS.out (by omega) (by omega)
              obtain ⟨t, ht⟩ : ∃ t, lt dk[a]! dk[m + 1]! = t := ⟨_, rfl⟩
              rw [ht] at cL
              have CL := Lib.hid cL
              clear cL
              cases t
              · have hst := down_stop (p := fun x => lt dk[a]! x) (d := dk) (j := m + 1) (i := i2) (Or.inr (by simp only [ht]))
                rw [HJ.out] at hst
                rw [hst, show m + 1 - 1 = m from rfl] at HDD
                have hne : i2 ≠ m + 1 := fun hh => by
                  have h1 := HT1.out
                  rw [hh, ht] at h1
                  cases h1
                clear HJ ht
                rw [if_neg (by omega)] at HDD
                go_wp2_with (first
                  | (go_at_fn f; refine CL.out.mono ?_; rintro e w1 ⟨rfl, hb1⟩; have HS2 := Lib.hid (HH.out.on HS.out hb1); obtain ⟨f8, r8, m8, e8, c8⟩ := HH.out.swap i2 (m + 1) HS2.out (by omega) (by omega); have C8 := Lib.hid c8; clear hb1 c8)
                  | (go_at_fn f8; refine C8.out.mono ?_; rintro e w9 ⟨rfl, hs9, _⟩; have HS9 := Lib.hid hs9; clear hs9))
                go_roundg (j + 1 - i - 1)
                case measure => omega
                case rel => exact ⟨i2 + 1, m, _, by go_num, by go_num, by omega, by omega, by omega, by omega, HDD, HS9⟩
              · have HJ2 := Lib.hid (by rw [← HJ.out]; exact (down_step (p := fun x => lt dk[a]! x) (i := i2) (j := m) (by omega) (by simp only [ht])).symm : Sort.scanDown (fun x => lt dk[a]! x) dk i2 m = j2)
                clear HJ ht
                go_wp2_with (go_at_fn f; refine CL.out.mono ?_; rintro e w1 ⟨rfl, hb1⟩; have HS2 := Lib.hid (HH.out.on HS.out hb1); clear hb1)
                go_roundg (m + 1)
                case measure => omega
                case rel => exact ⟨m, by go_num, by omega, by omega, Nat.le_refl _, HJ2, HS2⟩
            · have hst := down_stop (p := fun x => lt dk[a]! x) (d := dk) (j := k) (i := i2) (Or.inl hle)
              rw [HJ.out] at hst
              have hj2 : j2 = k := hst
              clear HJ
              rw [if_pos (by omega)] at HDD
              obtain rfl : (i2, dk) = D := HDD.out
              clear HDD
              go_wp2
              go_ret
              exact ⟨rfl, HS.out⟩
      · have hst := up_stop (p := fun x => !lt dk[a]! x) (d := dk) (j := j) (i := k) (Or.inl hle)
        rw [HI.out] at hst
        obtain rfl : i2 = k := hst
        clear HI
        go_wp2
        go_loopg [10] (j + 1) (fun g x wr => ∃ (k : Nat), x = .int .i64 k ∧ i2 ≤ k + 1 ∧ k ≤ j ∧ k + 1 ≤ g ∧ Hid (Sort.scanDown (fun x => lt dk[a]! x) dk i2 k = j2) ∧ Hid (S wr dk))
        case atStart => exact ⟨j, rfl, hu2, Nat.le_refl _, Nat.le_refl _, HJ0, HS⟩
        case round =>
          clear HJ0 HS
          obtain ⟨k, rfl, hik2, hkj2, hkg2, HJ, HS⟩ := hrel
          by_cases hle : i2 ≤ k
          · exfalso
            omega
          · have hst := down_stop (p := fun x => lt dk[a]! x) (d := dk) (j := k) (i := i2) (Or.inl hle)
            rw [HJ.out] at hst
            have hj2 : j2 = k := hst
            clear HJ
            rw [if_pos (by omega)] at HDD
            obtain rfl : (i2, dk) = D := HDD.out
            clear HDD
            go_wp2
            go_ret
            exact ⟨rfl, HS.out⟩
end Go.Proofs.YtffgoekdjcempaaGreat
