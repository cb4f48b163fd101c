/- Contracts of the document's own answers on gates (package culref): less, Level, Part, Many. -/
import Derived.Test.YtelehdnjioocmaaRefGateMath
import Derived.Test.YtelehdnjioocmaaMul64
namespace Go.Proofs.Ytelehdnjioocmaa
open Go.ChangeShapes Go.WideShapes Go.ChangeAt Go.RowKit

set_option maxRecDepth 100000 in
set_option maxHeartbeats 1000000 in
theorem less_any (a b c d : Nat) (ha : a < 9223372036854775808) (hb : b < 9223372036854775808) (hc : c < 9223372036854775808) (hd : d < 9223372036854775808) (w : World) :
    Calls Try.prog 32 #[.int .i64 a, .int .i64 b, .int .i64 c, .int .i64 d] w fun e w' => e = .returned (.bool (decide (a * b < c * d))) ∧ w = w' := by
  obtain ⟨h1, l1, e1, b1, C1⟩ := mul64_parts a b ha hb w
  obtain ⟨h2, l2, e2, b2, C2⟩ := mul64_parts c d hc hd w
  rw [e1, e2]
  have C1 := Lib.hid C1
  have C2 := Lib.hid C2
  clear e1 e2
  go_enter Try.func32, Try.ntmps32
  go_wp2_with fail
  refine C1.out.mono ?_
  rintro e w1 ⟨rfl, rfl⟩
  go_wp2_with fail
  refine C2.out.mono ?_
  rintro e w1 ⟨rfl, rfl⟩
  clear C1 C2
  go_wp2
  all_goals go_ret
  all_goals refine ⟨ret_bool ?_, rfl⟩
  all_goals rw [Bool.eq_iff_iff]
  all_goals simp
  all_goals omega

set_option maxRecDepth 100000 in
set_option maxHeartbeats 1000000 in
theorem refLevel_any (n : Nat) (hn : n ≤ 20) (w : World) :
    Calls Try.prog 17 #[.int .i64 n] w fun e w' => e = .returned (.int .i64 ((two56 - keptAt n : Nat) : Int)) ∧ w = w' := by
  go_enter Try.func17, Try.ntmps17
  go_wp2
  go_loop [3, 5] (fun z i => ∃ k : Nat, k ≤ n ∧ i = .int .i64 k ∧ z = .int .i64 (keptAt k : Nat)) (fun _ i => n - (intOf i).toNat)
  case atStart => exact ⟨0, Nat.zero_le _, rfl, by rw [keptAt_zero]; rfl⟩
  case round =>
    obtain ⟨k, hk, rfl, rfl⟩ := hrel
    have hp := keptAt_le k
    by_cases hlt : k < n
    · rw [keptAt_succ k (by omega)] at hp ⊢
      generalize hg : keptAt (k + 1) = p at *
      have HG := Lib.hid hg
      clear hg
      go_wp2
      go_round
      case rel => exact ⟨k + 1, by omega, by go_num, by rw [HG.out]⟩
      case measure => simp [intOf]; omega
    · obtain rfl : k = n := by omega
      generalize hg : keptAt k = p at *
      have HG := Lib.hid hg
      clear hg
      go_wp2
      go_ret
      exact ⟨ret_int (by rw [HG.out, two56_val]; omega), rfl⟩

set_option maxRecDepth 100000 in
set_option maxHeartbeats 1000000 in
theorem refPart_any (num den : Nat) (hn : 1 ≤ num) (hnd : num ≤ den) (hd : den ≤ 1000000000000) (w : World) :
    Calls Try.prog 18 #[.int .i64 num, .int .i64 den] w fun e w' => e = .returned (.int .i64 ((two56 - fewOf num den : Nat) : Int)) ∧ w = w' := by
  have hle := fewOf_le num den (by omega) hnd
  rw [two56_val] at hle
  have HI := Lib.hid (fewOf_iff num den (by omega))
  generalize hf : fewOf num den = f at *
  have HF := Lib.hid hf
  clear hf
  go_enter Try.func18, Try.ntmps18
  go_wp2
  go_loop [5, 6] (fun x i => ∃ j few : Nat, j ≤ 57 ∧ i = .int .i64 ((j : Int) - 1) ∧ x = .int .i64 few ∧ few ≤ f ∧ f < few + 2 ^ j) (fun _ i => (intOf i + 1).toNat)
  case atStart => exact ⟨57, 0, Nat.le_refl _, rfl, rfl, Nat.zero_le _, by omega⟩
  case round =>
    obtain ⟨j, few, hj, rfl, rfl, hlo, hhi⟩ := hrel
    rcases j with _ | j
    · go_wp2
      go_ret
      exact ⟨ret_int (by rw [two56_val]; omega), rfl⟩
    · rw [show (((j + 1 : Nat) : Int) - 1) = (j : Int) from by omega]
      have hp0 : 2 ^ j ≤ 2 ^ 56 := Nat.pow_le_pow_right (by decide) (by omega)
      have hp1 : 0 < 2 ^ j := Nat.pow_pos (by decide)
      have hpw := pow64 j (by omega)
      rw [Nat.pow_succ] at hhi
      generalize hg : 2 ^ j = p at *
      have HG := Lib.hid hg
      clear hg
      have hlt : few + p - 1 < 9223372036854775808 := by omega
      have hdec : decide ((few + p - 1) * den < 72057594037927936 * num) = decide (few + p ≤ f) := by
        rw [decide_eq_decide, ← two56_val, HI.out]
        omega
      have C := less_any (few + p - 1) den 72057594037927936 num hlt (by omega) (by omega) (by omega) w
      rw [hdec, show ((few + p - 1 : Nat) : Int) = (few : Int) + (p : Int) - 1 from by omega] at C
      have C := Lib.hid C
      clear hdec
      by_cases hin : few + p ≤ f
      · have ht : decide (few + p ≤ f) = true := by simp; omega
        rw [ht] at C
        clear ht
        go_wp2_with fail
        refine C.out.mono ?_
        rintro e w1 ⟨rfl, rfl⟩
        go_wp2
        go_round
        case rel => exact ⟨j, few + p, by omega, by go_num, by go_num, by omega, by rw [HG.out]; omega⟩
        case measure => simp [intOf]
      · have ht : decide (few + p ≤ f) = false := by simp; omega
        rw [ht] at C
        clear ht
        go_wp2_with fail
        refine C.out.mono ?_
        rintro e w1 ⟨rfl, rfl⟩
        go_wp2
        go_round
        case rel => exact ⟨j, few, by omega, by go_num, by go_num, by omega, by rw [HG.out]; omega⟩
        case measure => simp [intOf]

theorem or_pow (m j : Nat) : (m * 2 ^ (j + 1)) ||| 2 ^ j = m * 2 ^ (j + 1) + 2 ^ j := by
  rw [Nat.mul_comm, Nat.two_pow_add_eq_or_of_lt (Nat.pow_lt_pow_right (by decide) (by omega)) m]
theorem or_i64 (a b : Nat) (ha : a < 9223372036854775808) (hb : b < 9223372036854775808) : bits .or .i64 (a : Int) (b : Int) = ((a ||| b : Nat) : Int) := by
  have hx : a ||| b < 2 ^ 63 := Nat.or_lt_two_pow (by omega) (by omega)
  have h1 : (BitVec.ofInt 64 (a : Int)).toNat = a := by
    rw [BitVec.ofInt_natCast, BitVec.toNat_ofNat]; exact Nat.mod_eq_of_lt (by omega)
  have h2 : (BitVec.ofInt 64 (b : Int)).toNat = b := by
    rw [BitVec.ofInt_natCast, BitVec.toNat_ofNat]; exact Nat.mod_eq_of_lt (by omega)
  show IntKind.i64.wrap ((BitVec.ofInt 64 (a : Int) ||| BitVec.ofInt 64 (b : Int)).toNat : Int) = _
  rw [BitVec.toNat_or, h1, h2]
  simp only [IntKind.wrap, IntKind.bits, IntKind.signed]
  generalize a ||| b = c at *
  simp
  omega

/-- x is a multiple of 2^j, at most f, and less than 2^j below it -/
structure Near (f j x : Nat) : Prop where
  mult : ∃ m, x = m * 2 ^ j
  lt : x < 9223372036854775808
  le : x ≤ f
  up : f < 9223372036854775808 → f < x + 2 ^ j
theorem Near.start (f : Nat) : Near f 63 0 := ⟨⟨0, by rw [Nat.zero_mul]⟩, by decide, Nat.zero_le _, fun h => by rw [Nat.zero_add]; exact h⟩
theorem Near.last {f x : Nat} (h : Near f 0 x) (hf : f < 9223372036854775808) : x = f := by
  have h1 := h.le
  have h2 := h.up hf
  omega
theorem Near.or_ {f j x : Nat} (h : Near f (j + 1) x) (hj : j ≤ 62) : x ||| 2 ^ j = x + 2 ^ j ∧ x + 2 ^ j < 9223372036854775808 := by
  obtain ⟨m, hm⟩ := h.mult
  have e : x ||| 2 ^ j = x + 2 ^ j := by rw [hm]; exact or_pow m j
  refine ⟨e, ?_⟩
  rw [← e]
  exact Nat.or_lt_two_pow (n := 63) h.lt (Nat.pow_lt_pow_right (by decide) (by omega))
theorem Near.yes {f j x : Nat} (h : Near f (j + 1) x) (hj : j ≤ 62) (hf : x + 2 ^ j ≤ f) : Near f j (x + 2 ^ j) := by
  obtain ⟨m, hm⟩ := h.mult
  refine ⟨⟨2 * m + 1, ?_⟩, (h.or_ hj).2, hf, fun hl => ?_⟩
  · rw [hm, Nat.pow_succ, Nat.succ_mul, Nat.mul_comm 2 m, Nat.mul_assoc, Nat.mul_comm 2 (2 ^ j)]
  · have := h.up hl
    rw [Nat.pow_succ] at this
    omega
theorem Near.no {f j x : Nat} (h : Near f (j + 1) x) (hf : f < x + 2 ^ j) : Near f j x := by
  obtain ⟨m, hm⟩ := h.mult
  refine ⟨⟨2 * m, ?_⟩, h.lt, h.le, fun _ => hf⟩
  rw [hm, Nat.pow_succ, Nat.mul_comm 2 m, Nat.mul_assoc, Nat.mul_comm 2 (2 ^ j)]

set_option maxRecDepth 100000 in
set_option maxHeartbeats 1000000 in
theorem refMany_any (n th : Nat) (hn : n ≤ 1000000000000) (hth : th < 72057594037927936) (w : World) :
    Calls Try.prog 20 #[.int .i64 n, .int .i64 th] w fun e w' => e = .returned (.int .i64 (if manyOf n th ≤ 4611686018427387904 then (manyOf n th : Int) else -1)) ∧ w = w' := by
  have HI := Lib.hid (manyOf_iff n th hth)
  generalize manyOf n th = f at *
  go_enter Try.func20, Try.ntmps20
  go_wp2
  go_loop [5, 6, 7] (fun x i _ => ∃ j X : Nat, j ≤ 63 ∧ i = .int .i64 ((j : Int) - 1) ∧ x = .int .i64 X ∧ Near f j X) (fun _ i _ => (intOf i + 1).toNat)
  case atStart => exact ⟨63, 0, Nat.le_refl _, rfl, rfl, Near.start f⟩
  case round =>
    obtain ⟨j, X, hj, rfl, rfl, hN⟩ := hrel
    rcases j with _ | j
    · have hdec : decide (72057594037927936 * n < 4611686018427387905 * (two56 - th)) = decide (f ≤ 4611686018427387904) := by
        rw [decide_eq_decide, ← two56_val, HI.out]
        omega
      have C := less_any 72057594037927936 n 4611686018427387905 (two56 - th) (by omega) (by omega) (by omega) (by rw [two56_val]; omega) w
      rw [hdec, show ((two56 - th : Nat) : Int) = 72057594037927936 - (th : Int) from by rw [two56_val]; omega] at C
      have C := Lib.hid C
      clear hdec
      by_cases hin : f ≤ 4611686018427387904
      · have e : X = f := hN.last (by omega)
        subst e
        have ht : decide (X ≤ 4611686018427387904) = true := by simp; omega
        rw [ht] at C
        clear ht hN HI
        go_wp2_with fail
        refine C.out.mono ?_
        rintro e w1 ⟨rfl, rfl⟩
        go_wp2
        go_ret
        exact ⟨rfl, rfl⟩
      · have ht : decide (f ≤ 4611686018427387904) = false := by simp; omega
        rw [ht] at C
        clear ht hN HI
        go_wp2_with fail
        refine C.out.mono ?_
        rintro e w1 ⟨rfl, rfl⟩
        go_wp2
        go_ret
        exact ⟨rfl, rfl⟩
    · rw [show (((j + 1 : Nat) : Int) - 1) = (j : Int) from by omega]
      have hp1 : 0 < 2 ^ j := Nat.pow_pos (by decide)
      have hp0 : 2 ^ j ≤ 2 ^ 62 := Nat.pow_le_pow_right (by decide) (by omega)
      have hpw := pow64 j (by omega)
      obtain ⟨o1, o2⟩ := hN.or_ (by omega)
      have hor := or_i64 X (2 ^ j) hN.lt (by omega)
      rw [o1] at hor
      have HY := Lib.hid (hN.yes (by omega))
      have HNo := Lib.hid (hN.no)
      clear hN o1
      generalize hg : 2 ^ j = p at *
      clear hg
      have hdec : decide (72057594037927936 * n < (X + p) * (two56 - th)) = decide (f < X + p) := by
        rw [decide_eq_decide, ← two56_val, HI.out]
      have C := less_any 72057594037927936 n (X + p) (two56 - th) (by omega) (by omega) (by omega) (by rw [two56_val]; omega) w
      rw [hdec, show ((two56 - th : Nat) : Int) = 72057594037927936 - (th : Int) from by rw [two56_val]; omega] at C
      have C := Lib.hid C
      clear hdec
      by_cases hin : f < X + p
      · have ht : decide (f < X + p) = true := by simp; omega
        rw [ht] at C
        clear ht
        go_wp2_with fail
        refine C.out.mono ?_
        rintro e w1 ⟨rfl, rfl⟩
        go_wp2
        go_round
        case rel => exact ⟨j, X, by omega, by go_num, by go_num, HNo.out hin⟩
        case measure => simp [intOf]
      · have ht : decide (f < X + p) = false := by simp; omega
        rw [ht] at C
        clear ht
        go_wp2_with fail
        refine C.out.mono ?_
        rintro e w1 ⟨rfl, rfl⟩
        go_wp2
        go_round
        case rel => exact ⟨j, X + p, by omega, by go_num, by go_num, HY.out (by omega)⟩
        case measure => simp [intOf]

end Go.Proofs.Ytelehdnjioocmaa
