/- sort.partition over any value that sort.Sort can take. -/
import Derived.Test.YtffgoekdjcempaaGreatSrtSplit
namespace Go.Proofs.YtffgoekdjcempaaGreat
open Go.ChangeShapes Go.WideShapes Go.ChangeAt Go.RowKit
open Split

variable {S : World → Array Int → Prop} {base : Nat} {T : TypeId} {rv : Value} {lt : Int → Int → Bool} {n : Nat}

theorem partLoop_def (lt : Int → Int → Bool) {a i j : Nat} (d : Array Int) (hi : i ≤ j + 1) (i2 j2 : Nat) (h2 : Sort.scanUp (fun x => lt x d[a]!) d j i = i2) (h3 : Sort.scanDown (fun x => !lt x d[a]!) d i2 j = j2) :
    Sort.partLoop lt a i j d = if i2 > j2 then (j2, d) else Sort.partLoop lt a (i2 + 1) (j2 - 1) (Sort.swp d i2 j2) := by
  have u := up_ge (p := fun x => lt x d[a]!) (d := d) (j := j) _ i (Nat.le_refl _)
  rw [h2] at u
  have v := down_le (p := fun x => !lt x d[a]!) (d := d) (i := i2) j
  rw [h3] at v
  rw [Sort.partLoop.eq_def]
  simp only [h2, h3]
  by_cases hgt : i2 > j2
  · rw [if_pos hgt, if_pos hgt]
  · rw [if_neg hgt, if_neg hgt, dif_pos (by omega)]

set_option maxRecDepth 100000 in
set_option maxHeartbeats 8000000 in
theorem partition_s (H : Srt S base T rv lt n) (a b pivot : Nat) (d : Array Int) (w : World) (hS : S w d) (hab : a < b) (hb : b ≤ n) (hp : pivot < n) :
    Calls Tryz.prog 77 #[.iface T rv, .int .i64 a, .int .i64 b, .int .i64 pivot] w fun e w' =>
      e = .returned (.tuple #[.int .i64 ((Sort.partition lt d a b pivot).1 : Nat), .bool (Sort.partition lt d a b pivot).2.1]) ∧ S w' (Sort.partition lt d a b pivot).2.2 := by
  have hm := H.most
  obtain ⟨f0, r0, m0, e0, c0⟩ := H.swap a pivot hS (by omega) hp
  have C0 := Lib.hid c0
  have HH := Lib.hid H
  obtain ⟨Z, hZ⟩ : ∃ Z, Sort.partition lt d a b pivot = Z := ⟨_, rfl⟩
  rw [hZ]
  unfold Sort.partition at hZ
  simp only at hZ
  generalize Sort.swp d a pivot = d0 at *
  obtain ⟨ip, hip⟩ : ∃ ip, a + 1 = ip := ⟨_, rfl⟩
  obtain ⟨jp, hjp⟩ : ∃ jp, b - 1 = jp := ⟨_, rfl⟩
  rw [hip, hjp] at hZ
  have HD := Lib.hid hZ
  clear H hS c0 hZ
  go_enter Tryz.func77, Tryz.ntmps77
  go_wp2_with (go_at_fn f0; refine C0.out.mono ?_; rintro e w1 ⟨rfl, hs1, _⟩; have HSP := Lib.hid hs1; clear hs1)
  clear m0 e0 C0
  obtain ⟨i2p, hi2⟩ : ∃ i2, Sort.scanUp (fun x => lt x d0[a]!) d0 jp ip = i2 := ⟨_, rfl⟩
  obtain ⟨j2p, hj2⟩ : ∃ j2, Sort.scanDown (fun x => !lt x d0[a]!) d0 i2p jp = j2 := ⟨_, rfl⟩
  have hdd := HD.out
  rw [hi2, hj2] at hdd
  have HDDp := Lib.hid hdd
  have hu := up_ge (p := fun x => lt x d0[a]!) (d := d0) (j := jp) _ ip (Nat.le_refl _)
  rw [hi2] at hu
  have hu1p := hu.1
  have hu2p := hu.2 (by omega)
  have hv := down_le (p := fun x => !lt x d0[a]!) (d := d0) (i := i2p) jp
  rw [hj2] at hv
  have hv1p := hv.1
  have hv2p := hv.2 hu2p
  have HI0p := Lib.hid hi2
  have HJ0p := Lib.hid hj2
  clear hi2 hj2 hdd HD hu hv
  go_loopg [10] (jp + 1 - ip) (fun g x wr => ∃ (k : Nat), x = .int .i64 k ∧ ip ≤ k ∧ k ≤ jp + 1 ∧ jp + 1 - k ≤ g ∧ Hid (Sort.scanUp (fun x => lt x d0[a]!) d0 jp k = i2p) ∧ Hid (S wr d0))
  case atStart => exact ⟨ip, by congr 1; omega, Nat.le_refl _, by omega, Nat.le_refl _, HI0p, HSP⟩
  case round =>
    clear HI0p HSP
    obtain ⟨k, rfl, hik, hkj, hkg, HI, HS⟩ := hrel
    by_cases hle : k ≤ jp
    · obtain ⟨f, r, mL, eL, cL⟩ := HH.out.less k a HS.out (by omega) (by omega)
      obtain ⟨t, ht⟩ : ∃ t, lt d0[k]! d0[a]! = t := ⟨_, rfl⟩
      rw [ht] at cL
      have CL := Lib.hid cL
      clear cL
      cases t
      · have hst := up_stop (p := fun x => lt x d0[a]!) (d := d0) (j := jp) (i := k) (Or.inr (by simp only [ht]))
        rw [HI.out] at hst
        have hk2 : i2p = k := hst
        have HT1p := Lib.hid (show lt d0[i2p]! d0[a]! = false from by rw [hk2]; exact ht)
        subst hk2
        clear HI ht
        go_wp2_with (go_at_fn f; refine CL.out.mono ?_; rintro e w1 ⟨rfl, hb1⟩; have HSD := Lib.hid (HH.out.on HS.out hb1); clear hb1)
        clear mL eL CL
        go_loopg [11] (jp + 1) (fun g x wr => ∃ (k : Nat), x = .int .i64 k ∧ i2p ≤ k + 1 ∧ k ≤ jp ∧ k + 1 ≤ g ∧ Hid (Sort.scanDown (fun x => !lt x d0[a]!) d0 i2p k = j2p) ∧ Hid (S wr d0))
        case atStart => exact ⟨jp, by congr 1; omega, hu2p, Nat.le_refl _, Nat.le_refl _, HJ0p, HSD⟩
        case round =>
          clear HJ0p HSD
          obtain ⟨k, rfl, hik2, hkj2, hkg2, HJ, HS⟩ := hrel
          by_cases hle : i2p ≤ k
          · obtain ⟨m, rfl⟩ : ∃ m, k = m + 1 := ⟨k - 1, by omega⟩
            obtain ⟨f, r, mL, eL, cL⟩ := HH.out.less (m + 1) a HS.out (by omega) (by omega)
            obtain ⟨t, ht⟩ : ∃ t, lt d0[m + 1]! d0[a]! = t := ⟨_, rfl⟩
            rw [ht] at cL
            have CL := Lib.hid cL
            clear cL
            cases t
            · have HJ2 := Lib.hid (by rw [← HJ.out]; exact (down_step (p := fun x => !lt x d0[a]!) (i := i2p) (j := m) (by omega) (by simp only [ht]; rfl)).symm : Sort.scanDown (fun x => !lt x d0[a]!) d0 i2p m = j2p)
              clear HJ ht
              go_wp2_with (go_at_fn f; refine CL.out.mono ?_; rintro e w1 ⟨rfl, hb1⟩; have HS2 := Lib.hid (HH.out.on HS.out hb1); clear hb1)
              go_roundg (m + 1)
              case measure => omega
              case rel => exact ⟨m, by go_num, by omega, by omega, Nat.le_refl _, HJ2, HS2⟩
            · have hst := down_stop (p := fun x => !lt x d0[a]!) (d := d0) (j := m + 1) (i := i2p) (Or.inr (by simp only [ht]; rfl))
              rw [HJ.out] at hst
              rw [hst, show m + 1 - 1 = m from rfl] at HDDp
              have hne : i2p ≠ m + 1 := fun hh => by
                have h1 := HT1p.out
                rw [hh, ht] at h1
                cases h1
              clear HJ ht hst
              rw [if_neg (by omega)] at HDDp
              obtain ⟨D, hDD⟩ : ∃ D, Sort.partLoop lt a (i2p + 1) m (Sort.swp d0 i2p (m + 1)) = D := ⟨_, rfl⟩
              have hq := HDDp.out
              try simp only at hq
              rw [hDD] at hq
              subst hq
              have HDZ := Lib.hid hDD
              clear HDDp hDD
              go_wp2_with (first
                | (go_at_fn f; refine CL.out.mono ?_; rintro e w1 ⟨rfl, hb1⟩; have HS2 := Lib.hid (HH.out.on HS.out hb1); obtain ⟨f8, r8, m8, e8, c8⟩ := HH.out.swap i2p (m + 1) HS2.out (by omega) (by omega); have C8 := Lib.hid c8; clear hb1 c8)
                | (go_at_fn f8; refine C8.out.mono ?_; rintro e w9 ⟨rfl, hs9, _⟩; have HS9 := Lib.hid hs9; clear hs9))
              have hle2 : i2p ≤ m := by omega
              clear mL eL CL m8 e8 C8 HT1p hne hkg hkg2 HS2 HS
              go_loopg [10, 11] n (fun g x y wr => ∃ (i j : Nat) (dk : Array Int), x = .int .i64 i ∧ y = .int .i64 j ∧ a < i ∧ i ≤ j + 1 ∧ j < b ∧ j + 1 - i ≤ g ∧ Hid (Sort.partLoop lt a i j dk = D) ∧ Hid (S wr dk))
              case atStart => exact ⟨i2p + 1, m, _, by go_num, by go_num, by omega, by omega, by omega, by omega, HDZ, HS9⟩
              case round =>
                clear HDZ HS9
                obtain ⟨i, j, dk, rfl, rfl, hai, hij, hjb, hg, HD, HS⟩ := hrel
                obtain ⟨i2, hi2⟩ : ∃ i2, Sort.scanUp (fun x => lt x dk[a]!) dk j i = i2 := ⟨_, rfl⟩
                obtain ⟨j2, hj2⟩ : ∃ j2, Sort.scanDown (fun x => !lt x dk[a]!) dk i2 j = j2 := ⟨_, rfl⟩
                have hdd := HD.out
                rw [partLoop_def lt dk hij i2 j2 hi2 hj2] at hdd
                have HDD := Lib.hid hdd
                have hu := up_ge (p := fun x => lt x dk[a]!) (d := dk) (j := j) _ i (Nat.le_refl _)
                rw [hi2] at hu
                have hu1 := hu.1
                have hu2 := hu.2 (by omega)
                have hv := down_le (p := fun x => !lt x dk[a]!) (d := dk) (i := i2) j
                rw [hj2] at hv
                have hv1 := hv.1
                have hv2 := hv.2 hu2
                have HI0 := Lib.hid hi2
                have HJ0 := Lib.hid hj2
                clear hi2 hj2 hdd HD hu hv
                go_wp2
                go_loopg [10] (j + 1 - i) (fun g x wr => ∃ (k : Nat), x = .int .i64 k ∧ i ≤ k ∧ k ≤ j + 1 ∧ j + 1 - k ≤ g ∧ Hid (Sort.scanUp (fun x => lt x dk[a]!) dk j k = i2) ∧ Hid (S wr dk))
                case atStart => exact ⟨i, rfl, Nat.le_refl _, by omega, Nat.le_refl _, HI0, HS⟩
                case round =>
                  clear HI0 HS
                  obtain ⟨k, rfl, hik, hkj, hkg, HI, HS⟩ := hrel
                  by_cases hle : k ≤ j
                  · obtain ⟨f, r, mL, eL, cL⟩ := HH.out.less k a HS.out (by omega) (by omega)
                    obtain ⟨t, ht⟩ : ∃ t, lt dk[k]! dk[a]! = t := ⟨_, rfl⟩
                    rw [ht] at cL
                    have CL := Lib.hid cL
                    clear cL
                    cases t
                    · have hst := up_stop (p := fun x => lt x dk[a]!) (d := dk) (j := j) (i := k) (Or.inr (by simp only [ht]))
                      rw [HI.out] at hst
                      have hk2 : i2 = k := hst
                      have HT1 := Lib.hid (show lt dk[i2]! dk[a]! = false from by rw [hk2]; exact ht)
                      subst hk2
                      clear HI ht
                      go_wp2_with (go_at_fn f; refine CL.out.mono ?_; rintro e w1 ⟨rfl, hb1⟩; have HSD := Lib.hid (HH.out.on HS.out hb1); clear hb1)
                      clear mL eL CL
                      go_loopg [11] (j + 1) (fun g x wr => ∃ (k : Nat), x = .int .i64 k ∧ i2 ≤ k + 1 ∧ k ≤ j ∧ k + 1 ≤ g ∧ Hid (Sort.scanDown (fun x => !lt x dk[a]!) dk i2 k = j2) ∧ Hid (S wr dk))
                      case atStart => exact ⟨j, rfl, hu2, Nat.le_refl _, Nat.le_refl _, HJ0, HSD⟩
                      case round =>
                        clear HJ0 HSD
                        obtain ⟨k, rfl, hik2, hkj2, hkg2, HJ, HS⟩ := hrel
                        by_cases hle : i2 ≤ k
                        · obtain ⟨m, rfl⟩ : ∃ m, k = m + 1 := ⟨k - 1, by omega⟩
                          obtain ⟨f, r, mL, eL, cL⟩ := HH.out.less (m + 1) a HS.out (by omega) (by omega)
                          obtain ⟨t, ht⟩ : ∃ t, lt dk[m + 1]! dk[a]! = t := ⟨_, rfl⟩
                          rw [ht] at cL
                          have CL := Lib.hid cL
                          clear cL
                          cases t
                          · have HJ2 := Lib.hid (by rw [← HJ.out]; exact (down_step (p := fun x => !lt x dk[a]!) (i := i2) (j := m) (by omega) (by simp only [ht]; rfl)).symm : Sort.scanDown (fun x => !lt x dk[a]!) dk i2 m = j2)
                            clear HJ ht
                            go_wp2_with (go_at_fn f; refine CL.out.mono ?_; rintro e w1 ⟨rfl, hb1⟩; have HS2 := Lib.hid (HH.out.on HS.out hb1); clear hb1)
                            go_roundg (m + 1)
                            case measure => omega
                            case rel => exact ⟨m, by go_num, by omega, by omega, Nat.le_refl _, HJ2, HS2⟩
                          · have hst := down_stop (p := fun x => !lt x dk[a]!) (d := dk) (j := m + 1) (i := i2) (Or.inr (by simp only [ht]; rfl))
                            rw [HJ.out] at hst
                            rw [hst, show m + 1 - 1 = m from rfl] at HDD
                            have hne : i2 ≠ m + 1 := fun hh => by
                              have h1 := HT1.out
                              rw [hh, ht] at h1
                              cases h1
                            clear HJ ht hst
                            rw [if_neg (by omega)] at HDD
                            go_wp2_with (first
                              | (go_at_fn f; refine CL.out.mono ?_; rintro e w1 ⟨rfl, hb1⟩; have HS2 := Lib.hid (HH.out.on HS.out hb1); obtain ⟨f8, r8, m8, e8, c8⟩ := HH.out.swap i2 (m + 1) HS2.out (by omega) (by omega); have C8 := Lib.hid c8; clear hb1 c8)
                              | (go_at_fn f8; refine C8.out.mono ?_; rintro e w9 ⟨rfl, hs9, _⟩; have HS9 := Lib.hid hs9; clear hs9))
                            go_roundg (j + 1 - i - 1)
                            case measure => omega
                            case rel => exact ⟨i2 + 1, m, _, by go_num, by go_num, by omega, by omega, by omega, by omega, HDD, HS9⟩
                        · have hst := down_stop (p := fun x => !lt x dk[a]!) (d := dk) (j := k) (i := i2) (Or.inl hle)
                          rw [HJ.out] at hst
                          have hj2 : j2 = k := hst
                          clear HJ hst
                          rw [if_pos (by omega)] at HDD
                          obtain rfl : (j2, dk) = D := HDD.out
                          obtain ⟨f8, r8, m8, e8, c8⟩ := HH.out.swap k a HS.out (by omega) (by omega)
                          have C8 := Lib.hid c8
                          have HJK := Lib.hid hj2
                          clear HDD c8
                          subst hj2
                          go_wp2_with (go_at_fn f8; refine C8.out.mono ?_; rintro e w9 ⟨rfl, hs9, _⟩; have HS9 := Lib.hid hs9; clear hs9)
                          go_ret2
                          exact ⟨rfl, HS9.out⟩
                    · have HI2 := Lib.hid (by rw [← HI.out]; exact (up_step (p := fun x => lt x dk[a]!) hle (by simp only [ht])).symm : Sort.scanUp (fun x => lt x dk[a]!) dk j (k + 1) = i2)
                      clear HI ht
                      go_wp2_with (go_at_fn f; refine CL.out.mono ?_; rintro e w1 ⟨rfl, hb1⟩; have HS1 := Lib.hid (HH.out.on HS.out hb1); clear hb1)
                      go_roundg (j + 1 - (k + 1))
                      case measure => omega
                      case rel => exact ⟨k + 1, by go_num, by omega, by omega, by omega, HI2, HS1⟩
                  · have hst := up_stop (p := fun x => lt x dk[a]!) (d := dk) (j := j) (i := k) (Or.inl hle)
                    rw [HI.out] at hst
                    obtain rfl : i2 = k := hst
                    clear HI
                    go_wp2
                    go_loopg [11] (j + 1) (fun g x wr => ∃ (k : Nat), x = .int .i64 k ∧ i2 ≤ k + 1 ∧ k ≤ j ∧ k + 1 ≤ g ∧ Hid (Sort.scanDown (fun x => !lt x dk[a]!) dk i2 k = j2) ∧ Hid (S wr dk))
                    case atStart => exact ⟨j, rfl, hu2, Nat.le_refl _, Nat.le_refl _, HJ0, HS⟩
                    case round =>
                      clear HJ0 HS
                      obtain ⟨k, rfl, hik2, hkj2, hkg2, HJ, HS⟩ := hrel
                      by_cases hle : i2 ≤ k
                      · exfalso
                        omega
                      · have hst := down_stop (p := fun x => !lt x dk[a]!) (d := dk) (j := k) (i := i2) (Or.inl hle)
                        rw [HJ.out] at hst
                        have hj2 : j2 = k := hst
                        clear HJ hst
                        rw [if_pos (by omega)] at HDD
                        obtain rfl : (j2, dk) = D := HDD.out
                        obtain ⟨f8, r8, m8, e8, c8⟩ := HH.out.swap k a HS.out (by omega) (by omega)
                        have C8 := Lib.hid c8
                        have HJK := Lib.hid hj2
                        clear HDD c8
                        subst hj2
                        go_wp2_with (go_at_fn f8; refine C8.out.mono ?_; rintro e w9 ⟨rfl, hs9, _⟩; have HS9 := Lib.hid hs9; clear hs9)
                        go_ret2
                        exact ⟨rfl, HS9.out⟩
          · have hst := down_stop (p := fun x => !lt x d0[a]!) (d := d0) (j := k) (i := i2p) (Or.inl hle)
            rw [HJ.out] at hst
            have hj2 : j2p = k := hst
            clear HJ hst
            rw [if_pos (by omega)] at HDDp
            subst hj2
            obtain rfl := HDDp.out
            obtain ⟨f8, r8, m8, e8, c8⟩ := HH.out.swap j2p a HS.out (by omega) (by omega)
            have C8 := Lib.hid c8
            clear HDDp c8
            go_wp2_with (go_at_fn f8; refine C8.out.mono ?_; rintro e w9 ⟨rfl, hs9, _⟩; have HS9 := Lib.hid hs9; clear hs9)
            go_ret2
            exact ⟨rfl, HS9.out⟩
      · have HI2 := Lib.hid (by rw [← HI.out]; exact (up_step (p := fun x => lt x d0[a]!) hle (by simp only [ht])).symm : Sort.scanUp (fun x => lt x d0[a]!) d0 jp (k + 1) = i2p)
        clear HI ht
        go_wp2_with (go_at_fn f; refine CL.out.mono ?_; rintro e w1 ⟨rfl, hb1⟩; have HS1 := Lib.hid (HH.out.on HS.out hb1); clear hb1)
        go_roundg (jp + 1 - (k + 1))
        case measure => omega
        case rel => exact ⟨k + 1, by go_num, by omega, by omega, by omega, HI2, HS1⟩
    · have hst := up_stop (p := fun x => lt x d0[a]!) (d := d0) (j := jp) (i := k) (Or.inl hle)
      rw [HI.out] at hst
      obtain rfl : i2p = k := hst
      clear HI
      go_wp2
      go_loopg [11] (jp + 1) (fun g x wr => ∃ (k : Nat), x = .int .i64 k ∧ i2p ≤ k + 1 ∧ k ≤ jp ∧ k + 1 ≤ g ∧ Hid (Sort.scanDown (fun x => !lt x d0[a]!) d0 i2p k = j2p) ∧ Hid (S wr d0))
      case atStart => exact ⟨jp, by congr 1; omega, hu2p, Nat.le_refl _, Nat.le_refl _, HJ0p, HS⟩
      case round =>
        clear HJ0p HS
        obtain ⟨k, rfl, hik2, hkj2, hkg2, HJ, HS⟩ := hrel
        by_cases hle : i2p ≤ k
        · exfalso
          omega
        · have hst := down_stop (p := fun x => !lt x d0[a]!) (d := d0) (j := k) (i := i2p) (Or.inl hle)
          rw [HJ.out] at hst
          have hj2 : j2p = k := hst
          clear HJ hst
          rw [if_pos (by omega)] at HDDp
          subst hj2
          obtain rfl := HDDp.out
          obtain ⟨f8, r8, m8, e8, c8⟩ := HH.out.swap j2p a HS.out (by omega) (by omega)
          have C8 := Lib.hid c8
          clear HDDp c8
          go_wp2_with (go_at_fn f8; refine C8.out.mono ?_; rintro e w9 ⟨rfl, hs9, _⟩; have HS9 := Lib.hid hs9; clear hs9)
          go_ret2
          exact ⟨rfl, HS9.out⟩
end Go.Proofs.YtffgoekdjcempaaGreat
