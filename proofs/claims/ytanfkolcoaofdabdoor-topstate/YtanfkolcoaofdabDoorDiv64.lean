/- The contract of math/bits.Div64, for every divisor that is greater than the high half. -/
import Derived.Test.YtanfkolcoaofdabDoorDivMath
import Derived.Test.YtanfkolcoaofdabDoorShelf
import Derived.Deep.LoopGhost
import Derived.Deep.QuietTactic
import Derived.RegionTactic
namespace Go.Proofs.YtanfkolcoaofdabDoor
open Go.ChangeShapes Go.WideShapes Go.ChangeAt Go.RowKit

theorem bitLenAux_bd : ∀ (f x : Nat), 0 < x → x < 2 ^ f → 1 ≤ Lib.bitLenAux f x ∧ 2 ^ (Lib.bitLenAux f x - 1) ≤ x ∧ x < 2 ^ Lib.bitLenAux f x
  | 0, x, h, h2 => by simp at h2; omega
  | f + 1, x, h, h2 => by
    rw [Lib.bitLenAux, if_neg (by omega)]
    by_cases h1 : x = 1
    · subst h1
      have e : Lib.bitLenAux f 0 = 0 := by cases f <;> simp [Lib.bitLenAux]
      simp [e]
    · have ih := bitLenAux_bd f (x / 2) (by omega) (by rw [Nat.pow_succ] at h2; omega)
      generalize Lib.bitLenAux f (x / 2) = k at *
      obtain ⟨k, rfl⟩ : ∃ j, k = j + 1 := ⟨k - 1, by omega⟩
      have e1 := ih.2.1
      have e2 := ih.2.2
      rw [Nat.add_sub_cancel] at e1
      rw [Nat.pow_succ] at e2
      refine ⟨by omega, ?_, ?_⟩
      · rw [show 1 + (k + 1) - 1 = k + 1 from by omega, Nat.pow_succ]
        omega
      · rw [show 1 + (k + 1) = k + 1 + 1 from by omega, Nat.pow_succ, Nat.pow_succ]
        omega

theorem wrap_quo (n y : Nat) (hn : n < 18446744073709551616) : IntKind.u64.wrap ((n : Int) / (y : Int)) = ((n / y : Nat) : Int) := by
  rw [IntKind.wrap_u64, ← Int.natCast_ediv]
  have := Nat.div_le_self n y
  generalize n / y = q at *
  omega
theorem wrap_rem (n y : Nat) (hn : n < 18446744073709551616) : IntKind.u64.wrap ((n : Int) - IntKind.u64.wrap (((n / y : Nat) : Int) * (y : Int))) = ((n % y : Nat) : Int) := by
  rw [IntKind.wrap_u64, IntKind.wrap_u64, ← Int.natCast_mul]
  have h := Nat.div_add_mod n y
  rw [Nat.mul_comm] at h
  generalize n / y * y = q at *
  generalize n % y = r at *
  omega
theorem wrap_left (n u Q Y r : Nat) (he : n * 4294967296 + u = Q * Y + r) (hr : r < 18446744073709551616) :
    IntKind.u64.wrap (IntKind.u64.wrap (IntKind.u64.wrap ((n : Int) * 4294967296) + (u : Int)) - IntKind.u64.wrap ((Q : Int) * (Y : Int))) = (r : Int) := by
  rw [IntKind.wrap_u64, IntKind.wrap_u64, IntKind.wrap_u64, IntKind.wrap_u64, ← Int.natCast_mul]
  generalize Q * Y = q at *
  omega

set_option maxRecDepth 100000 in
set_option maxHeartbeats 8000000 in
theorem div64_core (hi lo y s Y n L y1 y0 u v : Nat) (h0 : 0 < hi) (h1 : hi < y) (h2 : y < 18446744073709551616) (h3 : lo < 18446744073709551616)
    (hs : s ≤ 63) (HS : Hid ((64 - ((Lib.bitLen ((y : Int)).toNat : Nat) : Int)) = (s : Int)))
    (E1 : IntKind.u64.wrap ((y : Int) * 2 ^ s) = (Y : Int)) (E2 : bits .and .u64 (Y : Int) 4294967295 = (y0 : Int)) (E3 : (Y : Int) / 4294967296 = (y1 : Int))
    (E4 : bits .or .u64 (IntKind.u64.wrap ((hi : Int) * 2 ^ s)) ((lo : Int) / 2 ^ (64 - s)) = (n : Int))
    (E5 : IntKind.u64.wrap ((lo : Int) * 2 ^ s) = (L : Int)) (E6 : (L : Int) / 4294967296 = (u : Int)) (E7 : bits .and .u64 (L : Int) 4294967295 = (v : Int))
    (hY : Y < 18446744073709551616) (hn : n < 18446744073709551616) (HY : Hid (y1 * 4294967296 + y0 = Y)) (hD : Digit 4294967296 y1 y0 n u) (hv : v < 4294967296) (w : World) :
    Calls Tryd.prog 40 #[.int .u64 hi, .int .u64 lo, .int .u64 y] w fun e w' => ∃ q1 r1 q0 r0 : Nat, n * 4294967296 + u = q1 * Y + r1 ∧ r1 * 4294967296 + v = q0 * Y + r0 ∧ r0 < Y ∧
      e = .returned (.tuple #[.int .u64 ((q1 * 4294967296 + q0 : Nat) : Int), .int .u64 ((r0 / 2 ^ s : Nat) : Int)]) ∧ w = w' := by
  have C := Lib.hid (bits_LeadingZeros64 (y : Int) w (by omega) (by omega))
  have b1 := hD.half
  have b2 := hD.y1lt
  have b3 := hD.y0lt
  have b4 := hD.ult
  have HD := Lib.hid hD
  have E0 := Lib.hid (est_start hD)
  clear hD
  have t0 : (((y : Nat) : Int) == 0) = false := by simp; omega
  have t1 : (((hi : Nat) : Int) == 0) = false := by simp; omega
  have t2 : (((y1 : Nat) : Int) == 0) = false := by simp; omega
  have E8 := wrap_quo n y1 hn
  have E9 := wrap_rem n y1 hn
  generalize n / y1 = Q0 at *
  generalize n % y1 = R0 at *
  go_enter Tryd.func40, Tryd.ntmps40
  go_wp2_with fail
  refine C.out.mono ?_
  rintro e w1 ⟨rfl, rfl⟩
  rw [HS.out]
  clear C
  go_wp2
  clear E1 E2 E3 E4 E5 E6 E7 E8 E9
  generalize hBB : (4294967296 : Int) = B at *
  have HB := Lib.hid hBB
  have hB1 : B ≤ 4294967296 := by omega
  have hB2 : 4294967296 ≤ B := by omega
  clear hBB
  go_loopg [15, 16] Q0 (fun g q r wr => wr = w1 ∧ ∃ Q R : Nat, Q = g ∧ q = .int .u64 Q ∧ r = .int .u64 R ∧ Est 4294967296 y1 y0 n u Q R)
  case atStart => exact ⟨rfl, Q0, R0, rfl, rfl, rfl, E0.out⟩
  case round =>
    clear E0
    obtain ⟨rfl, Q, R, hg, rfl, rfl, hE⟩ := hrel
    have HG := Lib.hid hg
    clear hg
    have c1 := hE.rlt
    have c2 : Q ≤ 4294967297 := hE.qle
    obtain ⟨T1, T2⟩ := est_test HD.out hE
    have HE := Lib.hid hE
    have H1 := Lib.hid T1
    have H2 := Lib.hid T2
    clear hE T1 T2
    by_cases hq : 4294967296 ≤ Q
    · have HL := Lib.hid (H1.out hq)
      have hq' : B ≤ (Q : Int) := by omega
      clear H1 H2 hq
      by_cases hr : R + y1 < 4294967296
      · have hr' : (R : Int) + (y1 : Int) < B := by omega
        have HE' := Lib.hid (est_on HE.out HL.out hr)
        clear hr
        go_wp2
        go_roundg (Q - 1)
        case measure => have := HG.out; omega
        case rel => exact ⟨rfl, Q - 1, R + y1, rfl, by go_num, by go_num, HE'.out⟩
      · have hr' : B ≤ (R : Int) + (y1 : Int) := by omega
        have HQ := Lib.hid (est_break HD.out HE.out HL.out (by omega))
        clear hr
        obtain ⟨X, hX⟩ : ∃ X : Int, (Q : Int) - 1 = X := ⟨_, rfl⟩
        have HX : Hid (X = ((digitQ 4294967296 y1 y0 n u : Nat) : Int)) := Lib.hid (by rw [← HQ.out, ← hX]; omega)
        clear HL HE HQ
        obtain ⟨r1, hr1, hl1⟩ := digit_left HD.out
        have HD2 : Hid (Digit 4294967296 y1 y0 r1 v) := Lib.hid ⟨b1, by omega, b2, b3, hv, hr1⟩
        rw [HY.out] at hr1 hl1
        have F1 := wrap_left n u _ Y r1 hl1 (by omega)
        rw [← HX.out, HB.out] at F1
        have hl1 := Lib.hid hl1
        have hr1' : r1 < 18446744073709551616 := by omega
        have F8 := wrap_quo r1 y1 hr1'
        have F9 := wrap_rem r1 y1 hr1'
        have E2 := Lib.hid (est_start HD2.out)
        generalize r1 / y1 = S0 at *
        generalize r1 % y1 = S1 at *
        go_wp2
        clear F1 F8 F9
        go_loopg [18, 16] S0 (fun g q r wr' => wr' = wr ∧ ∃ Q R : Nat, Q = g ∧ q = .int .u64 Q ∧ r = .int .u64 R ∧ Est 4294967296 y1 y0 r1 v Q R)
        case atStart => exact ⟨rfl, S0, S1, rfl, rfl, rfl, E2.out⟩
        case round =>
          clear E2
          clear HG hq' c1 c2
          obtain ⟨rfl, Q, R, hg, rfl, rfl, hE⟩ := hrel
          have HG := Lib.hid hg
          clear hg
          have c1 := hE.rlt
          have c2 : Q ≤ 4294967297 := hE.qle
          obtain ⟨T1, T2⟩ := est_test HD2.out hE
          have HE := Lib.hid hE
          have H1 := Lib.hid T1
          have H2 := Lib.hid T2
          clear hE T1 T2
          by_cases hq : 4294967296 ≤ Q
          · have HL := Lib.hid (H1.out hq)
            have hq' : B ≤ (Q : Int) := by omega
            clear H1 H2 hq
            by_cases hr : R + y1 < 4294967296
            · have hr' : (R : Int) + (y1 : Int) < B := by omega
              have HE' := Lib.hid (est_on HE.out HL.out hr)
              clear hr
              go_wp2
              go_roundg (Q - 1)
              case measure => have := HG.out; omega
              case rel => exact ⟨rfl, Q - 1, R + y1, rfl, by go_num, by go_num, HE'.out⟩
            · have hr' : B ≤ (R : Int) + (y1 : Int) := by omega
              have HQ := Lib.hid (est_break HD2.out HE.out HL.out (by omega))
              clear hr
              obtain ⟨X2, hX⟩ : ∃ X : Int, (Q : Int) - 1 = X := ⟨_, rfl⟩
              have HX2 : Hid (X2 = ((digitQ 4294967296 y1 y0 r1 v : Nat) : Int)) := Lib.hid (by rw [← HQ.out, ← hX]; omega)
              clear HL HE HQ
              obtain ⟨r0, hr0, hl0⟩ := digit_left HD2.out
              rw [HY.out] at hr0 hl0
              have G2 := wrap_left r1 v _ Y r0 hl0 (by omega)
              rw [← HX2.out, HB.out] at G2
              obtain ⟨d, HE1, G1⟩ : ∃ d : Nat, Hid (digitQ 4294967296 y1 y0 n u * 4294967296 + digitQ 4294967296 y1 y0 r1 v = d) ∧ IntKind.u64.wrap (IntKind.u64.wrap (X * B) + X2) = (d : Int) := ⟨_, Lib.hid rfl, by
                have g1 := digitQ_lt HD.out
                have g2 := digitQ_lt HD2.out
                rw [HX.out, HX2.out, ← HB.out, IntKind.wrap_u64, IntKind.wrap_u64]
                generalize digitQ 4294967296 y1 y0 n u = d1 at *
                generalize digitQ 4294967296 y1 y0 r1 v = d0 at *
                omega⟩
              have G3 : (r0 : Int) / 2 ^ s = ((r0 / 2 ^ s : Nat) : Int) := by rw [Int.natCast_ediv, Int.natCast_pow]; rfl
              have HR := Lib.hid (And.intro hl1.out hl0)
              clear hl0
              generalize hd2 : r0 / 2 ^ s = d2 at *
              have HE2 := Lib.hid hd2
              clear hd2
              go_wp2
              go_ret2
              exact ⟨_, r1, _, r0, HR.out.1, HR.out.2, hr0, by rw [HE1.out, HE2.out]; rfl, rfl⟩
          · obtain ⟨f1, f2, f3⟩ := H2.out (by omega)
            have hq' : (Q : Int) < B := by omega
            have f4 : (Q : Int) * (y0 : Int) = ((Q * y0 : Nat) : Int) := (Int.natCast_mul Q y0).symm
            have f5 : B * (R : Int) = ((4294967296 * R : Nat) : Int) := by rw [← HB.out]; exact (Int.natCast_mul 4294967296 R).symm
            have F3 := Lib.hid f3
            have f1' : Q * y0 < 18446744073709551616 := f1
            have f2' : 4294967296 * R + v < 18446744073709551616 := f2
            clear H1 H2 hq f1 f2 f3
            generalize Q * y0 = p at *
            generalize 4294967296 * R = p2 at *
            by_cases hp : p2 + v < p
            · have HL := Lib.hid (F3.out.2 hp)
              have hp' : (p2 : Int) + (v : Int) < (p : Int) := by omega
              have hp0 : 1 ≤ Q := by have := HL.out; omega
              clear hp F3
              by_cases hr : R + y1 < 4294967296
              · have hr' : (R : Int) + (y1 : Int) < B := by omega
                have HE' := Lib.hid (est_on HE.out HL.out hr)
                clear hr
                go_wp2
                go_roundg (Q - 1)
                case measure => have := HG.out; omega
                case rel => exact ⟨rfl, Q - 1, R + y1, rfl, by go_num, by go_num, HE'.out⟩
              · have hr' : B ≤ (R : Int) + (y1 : Int) := by omega
                have HQ := Lib.hid (est_break HD2.out HE.out HL.out (by omega))
                clear hr
                obtain ⟨X2, hX⟩ : ∃ X : Int, (Q : Int) - 1 = X := ⟨_, rfl⟩
                have HX2 : Hid (X2 = ((digitQ 4294967296 y1 y0 r1 v : Nat) : Int)) := Lib.hid (by rw [← HQ.out, ← hX]; omega)
                clear HL HE HQ
                obtain ⟨r0, hr0, hl0⟩ := digit_left HD2.out
                rw [HY.out] at hr0 hl0
                have G2 := wrap_left r1 v _ Y r0 hl0 (by omega)
                rw [← HX2.out, HB.out] at G2
                obtain ⟨d, HE1, G1⟩ : ∃ d : Nat, Hid (digitQ 4294967296 y1 y0 n u * 4294967296 + digitQ 4294967296 y1 y0 r1 v = d) ∧ IntKind.u64.wrap (IntKind.u64.wrap (X * B) + X2) = (d : Int) := ⟨_, Lib.hid rfl, by
                  have g1 := digitQ_lt HD.out
                  have g2 := digitQ_lt HD2.out
                  rw [HX.out, HX2.out, ← HB.out, IntKind.wrap_u64, IntKind.wrap_u64]
                  generalize digitQ 4294967296 y1 y0 n u = d1 at *
                  generalize digitQ 4294967296 y1 y0 r1 v = d0 at *
                  omega⟩
                have G3 : (r0 : Int) / 2 ^ s = ((r0 / 2 ^ s : Nat) : Int) := by rw [Int.natCast_ediv, Int.natCast_pow]; rfl
                have HR := Lib.hid (And.intro hl1.out hl0)
                clear hl0
                generalize hd2 : r0 / 2 ^ s = d2 at *
                have HE2 := Lib.hid hd2
                clear hd2
                go_wp2
                go_ret2
                exact ⟨_, r1, _, r0, HR.out.1, HR.out.2, hr0, by rw [HE1.out, HE2.out]; rfl, rfl⟩
            · have hp' : (p : Int) ≤ (p2 : Int) + (v : Int) := by omega
              have HQ := Lib.hid (est_end HE.out (fun h => hp (F3.out.1 h)))
              have HX2 : Hid ((Q : Int) = ((digitQ 4294967296 y1 y0 r1 v : Nat) : Int)) := Lib.hid (by rw [← HQ.out])
              clear hp F3 HE HQ
              generalize (Q : Int) = X2 at *
              obtain ⟨r0, hr0, hl0⟩ := digit_left HD2.out
              rw [HY.out] at hr0 hl0
              have G2 := wrap_left r1 v _ Y r0 hl0 (by omega)
              rw [← HX2.out, HB.out] at G2
              obtain ⟨d, HE1, G1⟩ : ∃ d : Nat, Hid (digitQ 4294967296 y1 y0 n u * 4294967296 + digitQ 4294967296 y1 y0 r1 v = d) ∧ IntKind.u64.wrap (IntKind.u64.wrap (X * B) + X2) = (d : Int) := ⟨_, Lib.hid rfl, by
                have g1 := digitQ_lt HD.out
                have g2 := digitQ_lt HD2.out
                rw [HX.out, HX2.out, ← HB.out, IntKind.wrap_u64, IntKind.wrap_u64]
                generalize digitQ 4294967296 y1 y0 n u = d1 at *
                generalize digitQ 4294967296 y1 y0 r1 v = d0 at *
                omega⟩
              have G3 : (r0 : Int) / 2 ^ s = ((r0 / 2 ^ s : Nat) : Int) := by rw [Int.natCast_ediv, Int.natCast_pow]; rfl
              have HR := Lib.hid (And.intro hl1.out hl0)
              clear hl0
              generalize hd2 : r0 / 2 ^ s = d2 at *
              have HE2 := Lib.hid hd2
              clear hd2
              go_wp2
              go_ret2
              exact ⟨_, r1, _, r0, HR.out.1, HR.out.2, hr0, by rw [HE1.out, HE2.out]; rfl, rfl⟩
    · obtain ⟨f1, f2, f3⟩ := H2.out (by omega)
      have hq' : (Q : Int) < B := by omega
      have f4 : (Q : Int) * (y0 : Int) = ((Q * y0 : Nat) : Int) := (Int.natCast_mul Q y0).symm
      have f5 : B * (R : Int) = ((4294967296 * R : Nat) : Int) := by rw [← HB.out]; exact (Int.natCast_mul 4294967296 R).symm
      have F3 := Lib.hid f3
      have f1' : Q * y0 < 18446744073709551616 := f1
      have f2' : 4294967296 * R + u < 18446744073709551616 := f2
      clear H1 H2 hq f1 f2 f3
      generalize Q * y0 = p at *
      generalize 4294967296 * R = p2 at *
      by_cases hp : p2 + u < p
      · have HL := Lib.hid (F3.out.2 hp)
        have hp' : (p2 : Int) + (u : Int) < (p : Int) := by omega
        have hp0 : 1 ≤ Q := by have := HL.out; omega
        clear hp F3
        by_cases hr : R + y1 < 4294967296
        · have hr' : (R : Int) + (y1 : Int) < B := by omega
          have HE' := Lib.hid (est_on HE.out HL.out hr)
          clear hr
          go_wp2
          go_roundg (Q - 1)
          case measure => have := HG.out; omega
          case rel => exact ⟨rfl, Q - 1, R + y1, rfl, by go_num, by go_num, HE'.out⟩
        · have hr' : B ≤ (R : Int) + (y1 : Int) := by omega
          have HQ := Lib.hid (est_break HD.out HE.out HL.out (by omega))
          clear hr
          obtain ⟨X, hX⟩ : ∃ X : Int, (Q : Int) - 1 = X := ⟨_, rfl⟩
          have HX : Hid (X = ((digitQ 4294967296 y1 y0 n u : Nat) : Int)) := Lib.hid (by rw [← HQ.out, ← hX]; omega)
          clear HL HE HQ
          obtain ⟨r1, hr1, hl1⟩ := digit_left HD.out
          have HD2 : Hid (Digit 4294967296 y1 y0 r1 v) := Lib.hid ⟨b1, by omega, b2, b3, hv, hr1⟩
          rw [HY.out] at hr1 hl1
          have F1 := wrap_left n u _ Y r1 hl1 (by omega)
          rw [← HX.out, HB.out] at F1
          have hl1 := Lib.hid hl1
          have hr1' : r1 < 18446744073709551616 := by omega
          have F8 := wrap_quo r1 y1 hr1'
          have F9 := wrap_rem r1 y1 hr1'
          have E2 := Lib.hid (est_start HD2.out)
          generalize r1 / y1 = S0 at *
          generalize r1 % y1 = S1 at *
          go_wp2
          clear F1 F8 F9
          go_loopg [18, 16] S0 (fun g q r wr' => wr' = wr ∧ ∃ Q R : Nat, Q = g ∧ q = .int .u64 Q ∧ r = .int .u64 R ∧ Est 4294967296 y1 y0 r1 v Q R)
          case atStart => exact ⟨rfl, S0, S1, rfl, rfl, rfl, E2.out⟩
          case round =>
            clear E2
            clear HG hq' c1 c2
            obtain ⟨rfl, Q, R, hg, rfl, rfl, hE⟩ := hrel
            have HG := Lib.hid hg
            clear hg
            have c1 := hE.rlt
            have c2 : Q ≤ 4294967297 := hE.qle
            obtain ⟨T1, T2⟩ := est_test HD2.out hE
            have HE := Lib.hid hE
            have H1 := Lib.hid T1
            have H2 := Lib.hid T2
            clear hE T1 T2
            by_cases hq : 4294967296 ≤ Q
            · have HL := Lib.hid (H1.out hq)
              have hq' : B ≤ (Q : Int) := by omega
              clear H1 H2 hq
              by_cases hr : R + y1 < 4294967296
              · have hr' : (R : Int) + (y1 : Int) < B := by omega
                have HE' := Lib.hid (est_on HE.out HL.out hr)
                clear hr
                go_wp2
                go_roundg (Q - 1)
                case measure => have := HG.out; omega
                case rel => exact ⟨rfl, Q - 1, R + y1, rfl, by go_num, by go_num, HE'.out⟩
              · have hr' : B ≤ (R : Int) + (y1 : Int) := by omega
                have HQ := Lib.hid (est_break HD2.out HE.out HL.out (by omega))
                clear hr
                obtain ⟨X2, hX⟩ : ∃ X : Int, (Q : Int) - 1 = X := ⟨_, rfl⟩
                have HX2 : Hid (X2 = ((digitQ 4294967296 y1 y0 r1 v : Nat) : Int)) := Lib.hid (by rw [← HQ.out, ← hX]; omega)
                clear HL HE HQ
                obtain ⟨r0, hr0, hl0⟩ := digit_left HD2.out
                rw [HY.out] at hr0 hl0
                have G2 := wrap_left r1 v _ Y r0 hl0 (by omega)
                rw [← HX2.out, HB.out] at G2
                obtain ⟨d, HE1, G1⟩ : ∃ d : Nat, Hid (digitQ 4294967296 y1 y0 n u * 4294967296 + digitQ 4294967296 y1 y0 r1 v = d) ∧ IntKind.u64.wrap (IntKind.u64.wrap (X * B) + X2) = (d : Int) := ⟨_, Lib.hid rfl, by
                  have g1 := digitQ_lt HD.out
                  have g2 := digitQ_lt HD2.out
                  rw [HX.out, HX2.out, ← HB.out, IntKind.wrap_u64, IntKind.wrap_u64]
                  generalize digitQ 4294967296 y1 y0 n u = d1 at *
                  generalize digitQ 4294967296 y1 y0 r1 v = d0 at *
                  omega⟩
                have G3 : (r0 : Int) / 2 ^ s = ((r0 / 2 ^ s : Nat) : Int) := by rw [Int.natCast_ediv, Int.natCast_pow]; rfl
                have HR := Lib.hid (And.intro hl1.out hl0)
                clear hl0
                generalize hd2 : r0 / 2 ^ s = d2 at *
                have HE2 := Lib.hid hd2
                clear hd2
                go_wp2
                go_ret2
                exact ⟨_, r1, _, r0, HR.out.1, HR.out.2, hr0, by rw [HE1.out, HE2.out]; rfl, rfl⟩
            · obtain ⟨f1, f2, f3⟩ := H2.out (by omega)
              have hq' : (Q : Int) < B := by omega
              have f4 : (Q : Int) * (y0 : Int) = ((Q * y0 : Nat) : Int) := (Int.natCast_mul Q y0).symm
              have f5 : B * (R : Int) = ((4294967296 * R : Nat) : Int) := by rw [← HB.out]; exact (Int.natCast_mul 4294967296 R).symm
              have F3 := Lib.hid f3
              have f1' : Q * y0 < 18446744073709551616 := f1
              have f2' : 4294967296 * R + v < 18446744073709551616 := f2
              clear H1 H2 hq f1 f2 f3
              generalize Q * y0 = p at *
              generalize 4294967296 * R = p2 at *
              by_cases hp : p2 + v < p
              · have HL := Lib.hid (F3.out.2 hp)
                have hp' : (p2 : Int) + (v : Int) < (p : Int) := by omega
                have hp0 : 1 ≤ Q := by have := HL.out; omega
                clear hp F3
                by_cases hr : R + y1 < 4294967296
                · have hr' : (R : Int) + (y1 : Int) < B := by omega
                  have HE' := Lib.hid (est_on HE.out HL.out hr)
                  clear hr
                  go_wp2
                  go_roundg (Q - 1)
                  case measure => have := HG.out; omega
                  case rel => exact ⟨rfl, Q - 1, R + y1, rfl, by go_num, by go_num, HE'.out⟩
                · have hr' : B ≤ (R : Int) + (y1 : Int) := by omega
                  have HQ := Lib.hid (est_break HD2.out HE.out HL.out (by omega))
                  clear hr
                  obtain ⟨X2, hX⟩ : ∃ X : Int, (Q : Int) - 1 = X := ⟨_, rfl⟩
                  have HX2 : Hid (X2 = ((digitQ 4294967296 y1 y0 r1 v : Nat) : Int)) := Lib.hid (by rw [← HQ.out, ← hX]; omega)
                  clear HL HE HQ
                  obtain ⟨r0, hr0, hl0⟩ := digit_left HD2.out
                  rw [HY.out] at hr0 hl0
                  have G2 := wrap_left r1 v _ Y r0 hl0 (by omega)
                  rw [← HX2.out, HB.out] at G2
                  obtain ⟨d, HE1, G1⟩ : ∃ d : Nat, Hid (digitQ 4294967296 y1 y0 n u * 4294967296 + digitQ 4294967296 y1 y0 r1 v = d) ∧ IntKind.u64.wrap (IntKind.u64.wrap (X * B) + X2) = (d : Int) := ⟨_, Lib.hid rfl, by
                    have g1 := digitQ_lt HD.out
                    have g2 := digitQ_lt HD2.out
                    rw [HX.out, HX2.out, ← HB.out, IntKind.wrap_u64, IntKind.wrap_u64]
                    generalize digitQ 4294967296 y1 y0 n u = d1 at *
                    generalize digitQ 4294967296 y1 y0 r1 v = d0 at *
                    omega⟩
                  have G3 : (r0 : Int) / 2 ^ s = ((r0 / 2 ^ s : Nat) : Int) := by rw [Int.natCast_ediv, Int.natCast_pow]; rfl
                  have HR := Lib.hid (And.intro hl1.out hl0)
                  clear hl0
                  generalize hd2 : r0 / 2 ^ s = d2 at *
                  have HE2 := Lib.hid hd2
                  clear hd2
                  go_wp2
                  go_ret2
                  exact ⟨_, r1, _, r0, HR.out.1, HR.out.2, hr0, by rw [HE1.out, HE2.out]; rfl, rfl⟩
              · have hp' : (p : Int) ≤ (p2 : Int) + (v : Int) := by omega
                have HQ := Lib.hid (est_end HE.out (fun h => hp (F3.out.1 h)))
                have HX2 : Hid ((Q : Int) = ((digitQ 4294967296 y1 y0 r1 v : Nat) : Int)) := Lib.hid (by rw [← HQ.out])
                clear hp F3 HE HQ
                generalize (Q : Int) = X2 at *
                obtain ⟨r0, hr0, hl0⟩ := digit_left HD2.out
                rw [HY.out] at hr0 hl0
                have G2 := wrap_left r1 v _ Y r0 hl0 (by omega)
                rw [← HX2.out, HB.out] at G2
                obtain ⟨d, HE1, G1⟩ : ∃ d : Nat, Hid (digitQ 4294967296 y1 y0 n u * 4294967296 + digitQ 4294967296 y1 y0 r1 v = d) ∧ IntKind.u64.wrap (IntKind.u64.wrap (X * B) + X2) = (d : Int) := ⟨_, Lib.hid rfl, by
                  have g1 := digitQ_lt HD.out
                  have g2 := digitQ_lt HD2.out
                  rw [HX.out, HX2.out, ← HB.out, IntKind.wrap_u64, IntKind.wrap_u64]
                  generalize digitQ 4294967296 y1 y0 n u = d1 at *
                  generalize digitQ 4294967296 y1 y0 r1 v = d0 at *
                  omega⟩
                have G3 : (r0 : Int) / 2 ^ s = ((r0 / 2 ^ s : Nat) : Int) := by rw [Int.natCast_ediv, Int.natCast_pow]; rfl
                have HR := Lib.hid (And.intro hl1.out hl0)
                clear hl0
                generalize hd2 : r0 / 2 ^ s = d2 at *
                have HE2 := Lib.hid hd2
                clear hd2
                go_wp2
                go_ret2
                exact ⟨_, r1, _, r0, HR.out.1, HR.out.2, hr0, by rw [HE1.out, HE2.out]; rfl, rfl⟩
      · have hp' : (p : Int) ≤ (p2 : Int) + (u : Int) := by omega
        have HQ := Lib.hid (est_end HE.out (fun h => hp (F3.out.1 h)))
        have HX : Hid ((Q : Int) = ((digitQ 4294967296 y1 y0 n u : Nat) : Int)) := Lib.hid (by rw [← HQ.out])
        clear hp F3 HE HQ
        generalize (Q : Int) = X at *
        obtain ⟨r1, hr1, hl1⟩ := digit_left HD.out
        have HD2 : Hid (Digit 4294967296 y1 y0 r1 v) := Lib.hid ⟨b1, by omega, b2, b3, hv, hr1⟩
        rw [HY.out] at hr1 hl1
        have F1 := wrap_left n u _ Y r1 hl1 (by omega)
        rw [← HX.out, HB.out] at F1
        have hl1 := Lib.hid hl1
        have hr1' : r1 < 18446744073709551616 := by omega
        have F8 := wrap_quo r1 y1 hr1'
        have F9 := wrap_rem r1 y1 hr1'
        have E2 := Lib.hid (est_start HD2.out)
        generalize r1 / y1 = S0 at *
        generalize r1 % y1 = S1 at *
        go_wp2
        clear F1 F8 F9
        go_loopg [18, 16] S0 (fun g q r wr' => wr' = wr ∧ ∃ Q R : Nat, Q = g ∧ q = .int .u64 Q ∧ r = .int .u64 R ∧ Est 4294967296 y1 y0 r1 v Q R)
        case atStart => exact ⟨rfl, S0, S1, rfl, rfl, rfl, E2.out⟩
        case round =>
          clear E2
          clear HG hq' c1 c2
          obtain ⟨rfl, Q, R, hg, rfl, rfl, hE⟩ := hrel
          have HG := Lib.hid hg
          clear hg
          have c1 := hE.rlt
          have c2 : Q ≤ 4294967297 := hE.qle
          obtain ⟨T1, T2⟩ := est_test HD2.out hE
          have HE := Lib.hid hE
          have H1 := Lib.hid T1
          have H2 := Lib.hid T2
          clear hE T1 T2
          by_cases hq : 4294967296 ≤ Q
          · have HL := Lib.hid (H1.out hq)
            have hq' : B ≤ (Q : Int) := by omega
            clear H1 H2 hq
            by_cases hr : R + y1 < 4294967296
            · have hr' : (R : Int) + (y1 : Int) < B := by omega
              have HE' := Lib.hid (est_on HE.out HL.out hr)
              clear hr
              go_wp2
              go_roundg (Q - 1)
              case measure => have := HG.out; omega
              case rel => exact ⟨rfl, Q - 1, R + y1, rfl, by go_num, by go_num, HE'.out⟩
            · have hr' : B ≤ (R : Int) + (y1 : Int) := by omega
              have HQ := Lib.hid (est_break HD2.out HE.out HL.out (by omega))
              clear hr
              obtain ⟨X2, hX⟩ : ∃ X : Int, (Q : Int) - 1 = X := ⟨_, rfl⟩
              have HX2 : Hid (X2 = ((digitQ 4294967296 y1 y0 r1 v : Nat) : Int)) := Lib.hid (by rw [← HQ.out, ← hX]; omega)
              clear HL HE HQ
              obtain ⟨r0, hr0, hl0⟩ := digit_left HD2.out
              rw [HY.out] at hr0 hl0
              have G2 := wrap_left r1 v _ Y r0 hl0 (by omega)
              rw [← HX2.out, HB.out] at G2
              obtain ⟨d, HE1, G1⟩ : ∃ d : Nat, Hid (digitQ 4294967296 y1 y0 n u * 4294967296 + digitQ 4294967296 y1 y0 r1 v = d) ∧ IntKind.u64.wrap (IntKind.u64.wrap (X * B) + X2) = (d : Int) := ⟨_, Lib.hid rfl, by
                have g1 := digitQ_lt HD.out
                have g2 := digitQ_lt HD2.out
                rw [HX.out, HX2.out, ← HB.out, IntKind.wrap_u64, IntKind.wrap_u64]
                generalize digitQ 4294967296 y1 y0 n u = d1 at *
                generalize digitQ 4294967296 y1 y0 r1 v = d0 at *
                omega⟩
              have G3 : (r0 : Int) / 2 ^ s = ((r0 / 2 ^ s : Nat) : Int) := by rw [Int.natCast_ediv, Int.natCast_pow]; rfl
              have HR := Lib.hid (And.intro hl1.out hl0)
              clear hl0
              generalize hd2 : r0 / 2 ^ s = d2 at *
              have HE2 := Lib.hid hd2
              clear hd2
              go_wp2
              go_ret2
              exact ⟨_, r1, _, r0, HR.out.1, HR.out.2, hr0, by rw [HE1.out, HE2.out]; rfl, rfl⟩
          · obtain ⟨f1, f2, f3⟩ := H2.out (by omega)
            have hq' : (Q : Int) < B := by omega
            have f4 : (Q : Int) * (y0 : Int) = ((Q * y0 : Nat) : Int) := (Int.natCast_mul Q y0).symm
            have f5 : B * (R : Int) = ((4294967296 * R : Nat) : Int) := by rw [← HB.out]; exact (Int.natCast_mul 4294967296 R).symm
            have F3 := Lib.hid f3
            have f1' : Q * y0 < 18446744073709551616 := f1
            have f2' : 4294967296 * R + v < 18446744073709551616 := f2
            clear H1 H2 hq f1 f2 f3
            generalize Q * y0 = p at *
            generalize 4294967296 * R = p2 at *
            by_cases hp : p2 + v < p
            · have HL := Lib.hid (F3.out.2 hp)
              have hp' : (p2 : Int) + (v : Int) < (p : Int) := by omega
              have hp0 : 1 ≤ Q := by have := HL.out; omega
              clear hp F3
              by_cases hr : R + y1 < 4294967296
              · have hr' : (R : Int) + (y1 : Int) < B := by omega
                have HE' := Lib.hid (est_on HE.out HL.out hr)
                clear hr
                go_wp2
                go_roundg (Q - 1)
                case measure => have := HG.out; omega
                case rel => exact ⟨rfl, Q - 1, R + y1, rfl, by go_num, by go_num, HE'.out⟩
              · have hr' : B ≤ (R : Int) + (y1 : Int) := by omega
                have HQ := Lib.hid (est_break HD2.out HE.out HL.out (by omega))
                clear hr
                obtain ⟨X2, hX⟩ : ∃ X : Int, (Q : Int) - 1 = X := ⟨_, rfl⟩
                have HX2 : Hid (X2 = ((digitQ 4294967296 y1 y0 r1 v : Nat) : Int)) := Lib.hid (by rw [← HQ.out, ← hX]; omega)
                clear HL HE HQ
                obtain ⟨r0, hr0, hl0⟩ := digit_left HD2.out
                rw [HY.out] at hr0 hl0
                have G2 := wrap_left r1 v _ Y r0 hl0 (by omega)
                rw [← HX2.out, HB.out] at G2
                obtain ⟨d, HE1, G1⟩ : ∃ d : Nat, Hid (digitQ 4294967296 y1 y0 n u * 4294967296 + digitQ 4294967296 y1 y0 r1 v = d) ∧ IntKind.u64.wrap (IntKind.u64.wrap (X * B) + X2) = (d : Int) := ⟨_, Lib.hid rfl, by
                  have g1 := digitQ_lt HD.out
                  have g2 := digitQ_lt HD2.out
                  rw [HX.out, HX2.out, ← HB.out, IntKind.wrap_u64, IntKind.wrap_u64]
                  generalize digitQ 4294967296 y1 y0 n u = d1 at *
                  generalize digitQ 4294967296 y1 y0 r1 v = d0 at *
                  omega⟩
                have G3 : (r0 : Int) / 2 ^ s = ((r0 / 2 ^ s : Nat) : Int) := by rw [Int.natCast_ediv, Int.natCast_pow]; rfl
                have HR := Lib.hid (And.intro hl1.out hl0)
                clear hl0
                generalize hd2 : r0 / 2 ^ s = d2 at *
                have HE2 := Lib.hid hd2
                clear hd2
                go_wp2
                go_ret2
                exact ⟨_, r1, _, r0, HR.out.1, HR.out.2, hr0, by rw [HE1.out, HE2.out]; rfl, rfl⟩
            · have hp' : (p : Int) ≤ (p2 : Int) + (v : Int) := by omega
              have HQ := Lib.hid (est_end HE.out (fun h => hp (F3.out.1 h)))
              have HX2 : Hid ((Q : Int) = ((digitQ 4294967296 y1 y0 r1 v : Nat) : Int)) := Lib.hid (by rw [← HQ.out])
              clear hp F3 HE HQ
              generalize (Q : Int) = X2 at *
              obtain ⟨r0, hr0, hl0⟩ := digit_left HD2.out
              rw [HY.out] at hr0 hl0
              have G2 := wrap_left r1 v _ Y r0 hl0 (by omega)
              rw [← HX2.out, HB.out] at G2
              obtain ⟨d, HE1, G1⟩ : ∃ d : Nat, Hid (digitQ 4294967296 y1 y0 n u * 4294967296 + digitQ 4294967296 y1 y0 r1 v = d) ∧ IntKind.u64.wrap (IntKind.u64.wrap (X * B) + X2) = (d : Int) := ⟨_, Lib.hid rfl, by
                have g1 := digitQ_lt HD.out
                have g2 := digitQ_lt HD2.out
                rw [HX.out, HX2.out, ← HB.out, IntKind.wrap_u64, IntKind.wrap_u64]
                generalize digitQ 4294967296 y1 y0 n u = d1 at *
                generalize digitQ 4294967296 y1 y0 r1 v = d0 at *
                omega⟩
              have G3 : (r0 : Int) / 2 ^ s = ((r0 / 2 ^ s : Nat) : Int) := by rw [Int.natCast_ediv, Int.natCast_pow]; rfl
              have HR := Lib.hid (And.intro hl1.out hl0)
              clear hl0
              generalize hd2 : r0 / 2 ^ s = d2 at *
              have HE2 := Lib.hid hd2
              clear hd2
              go_wp2
              go_ret2
              exact ⟨_, r1, _, r0, HR.out.1, HR.out.2, hr0, by rw [HE1.out, HE2.out]; rfl, rfl⟩
end Go.Proofs.YtanfkolcoaofdabDoor
