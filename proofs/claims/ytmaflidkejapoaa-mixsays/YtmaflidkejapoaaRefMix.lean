/- Contracts of the document's own answers on hashing (package culref): Mix, back, power, Unmix, Hash. -/
import Derived.Test.YtmaflidkejapoaaOf
import Derived.Test.YtmaflidkejapoaaBackMath
import Derived.Lib.ConvBytes
namespace Go.Proofs.Ytmaflidkejapoaa
open Go.ChangeShapes Go.WideShapes Go.ChangeAt Go.RowKit

theorem quo_walk (m s : Nat) (h : m < MixMath.M) : IntKind.u64.wrap ((m : Int).tdiv (s : Int)) = (m : Int) / (s : Int) := by
  have h1 : m / s < 18446744073709551616 := Nat.lt_of_le_of_lt (Nat.div_le_self _ _) h
  rw [Int.tdiv_eq_ediv_of_nonneg (by omega), show (m : Int) / (s : Int) = ((m / s : Nat) : Int) from (Int.natCast_ediv m s).symm, IntKind.wrap_u64]
  generalize m / s = q at *
  omega

set_option maxHeartbeats 400000 in
theorem refMix_any (x : Nat) (h : x < MixMath.M) (w : World) :
    Calls Try.prog 12 #[.int .u64 x] w fun e w' => e = .returned (.int .u64 (MixMath.mixN x : Nat)) ∧ w = w' := by
  have hx : (x : Int) < 18446744073709551616 := by have : x < 18446744073709551616 := h; omega
  go_enter Try.func12, Try.ntmps12
  go_wp2
  go_ret
  refine ⟨ret_int ?_, rfl⟩
  have a := MixMath.sx_walk x 30 1073741824 (by decide) h
  have b := MixMath.mm_walk (MixMath.sx 30 x) 13787848793156543929
  have q1 := quo_walk (MixMath.mm MixMath.F1 (MixMath.sx 30 x)) 134217728 (MixMath.mm_lt _ _)
  have c := MixMath.sx_walk (MixMath.mm MixMath.F1 (MixMath.sx 30 x)) 27 134217728 (by decide) (MixMath.mm_lt _ _)
  have d := MixMath.mm_walk (MixMath.sx 27 (MixMath.mm MixMath.F1 (MixMath.sx 30 x))) 10723151780598845931
  have q2 := quo_walk (MixMath.mm MixMath.F2 (MixMath.sx 27 (MixMath.mm MixMath.F1 (MixMath.sx 30 x)))) 2147483648 (MixMath.mm_lt _ _)
  have e := MixMath.sx_walk (MixMath.mm MixMath.F2 (MixMath.sx 27 (MixMath.mm MixMath.F1 (MixMath.sx 30 x)))) 31 2147483648 (by decide) (MixMath.mm_lt _ _)
  simp only [Int.cast_ofNat_Int, MixMath.F1, MixMath.F2] at a b c d e q1 q2
  rw [a, b, q1, c, d, q2, e]
  rfl

set_option maxRecDepth 100000 in
set_option maxHeartbeats 400000 in
theorem back_any (y n : Nat) (w : World) (h : y < MixMath.M) (hn : 22 ≤ n) (hn' : n ≤ 31) :
    Calls Try.prog 22 #[.int .u64 y, .int .i64 n] w fun e w' => e = .returned (.int .u64 (MixMath.ux n y : Nat)) ∧ w = w' := by
  have hy : (y : Int) < 18446744073709551616 := by have : y < 18446744073709551616 := h; omega
  go_enter Try.func22, Try.ntmps22
  go_wp2
  go_loop [5, 6, 7] (fun x i _ => ∃ j : Nat, j ≤ 64 ∧ i = .int .i64 ((j : Int) - 1) ∧ x = .int .u64 (MixMath.top (MixMath.ux n y) j : Nat)) (fun _ i _ => (intOf i + 1).toNat)
  case atStart => exact ⟨64, Nat.le_refl _, rfl, by rw [MixMath.top_all _ (MixMath.ux_lt n y h)]; rfl⟩
  case round =>
    obtain ⟨j, hj, rfl, rfl⟩ := hrel
    rcases j with _ | j
    · rw [MixMath.top_zero]
      go_wp2
      go_ret
      exact ⟨rfl, rfl⟩
    · rw [show (((j + 1 : Nat) : Int) - 1) = (j : Int) from by omega]
      have hX := MixMath.top_lt (MixMath.ux n y) (j + 1) (MixMath.ux_lt n y h)
      have hX' : (MixMath.top (MixMath.ux n y) (j + 1) : Int) < 18446744073709551616 := by
        have : MixMath.top (MixMath.ux n y) (j + 1) < 18446744073709551616 := hX
        omega
      by_cases hc : j + n < 64
      · have hc' : (j : Int) + (n : Int) < 64 := by omega
        have HB := Lib.hid (MixMath.back_in y n j h hn hc)
        generalize MixMath.top (MixMath.ux n y) (j + 1) = X at *
        go_wp2_with fail
        go_round
        case rel => exact ⟨j, by omega, rfl, by rw [HB.out]⟩
        case measure => simp [intOf]
      · have hc' : ¬ (j : Int) + (n : Int) < 64 := by omega
        have HB := Lib.hid (MixMath.back_out y n j h hn (by omega) (by omega))
        generalize MixMath.top (MixMath.ux n y) (j + 1) = X at *
        go_wp2_with fail
        go_round
        case rel => exact ⟨j, by omega, rfl, by rw [HB.out]⟩
        case measure => simp [intOf]

set_option maxRecDepth 100000 in
set_option maxHeartbeats 400000 in
theorem power_any (f : Nat) : ∀ (a n : Nat) (w : World), a < MixMath.M → n < 2 ^ f → f ≤ 63 →
    Calls Try.prog 23 #[.int .u64 a, .int .u64 n] w fun e w' => e = .returned (.int .u64 (MixMath.pow f a n : Nat)) ∧ w = w' := by
  induction f with
  | zero =>
    intro a n w ha hn _
    obtain rfl : n = 0 := by simpa using hn
    go_enter Try.func23, Try.ntmps23
    go_wp2
    go_ret
    exact ⟨rfl, rfl⟩
  | succ f ih =>
    intro a n w ha hn hf
    have IH := Lib.hid ih
    clear ih
    by_cases h0 : n = 0
    · subst h0
      have e : MixMath.pow (f + 1) a 0 = 1 := by rw [MixMath.pow, if_pos rfl]
      rw [e]
      clear e
      go_enter Try.func23, Try.ntmps23
      go_wp2
      go_ret
      exact ⟨rfl, rfl⟩
    · have t0 : ((n : Int) == 0) = false := by rw [beq_eq_false_iff_ne]; omega
      have hn2 : n / 2 < 2 ^ f := by rw [Nat.pow_succ] at hn; omega
      have hnM : (n : Int) < 18446744073709551616 := by
        have : n < 2 ^ 64 := Nat.lt_of_lt_of_le hn (Nat.pow_le_pow_right (by decide) (by omega))
        omega
      have HA := Lib.hid (MixMath.mm_walk a a)
      have HP := Lib.hid hn2
      have hmm := MixMath.mm_lt a a
      clear hn hn2
      by_cases h1 : n % 2 = 1
      · have e : MixMath.pow (f + 1) a n = MixMath.mm a (MixMath.pow f (MixMath.mm a a) (n / 2)) := by rw [MixMath.pow, if_neg h0, if_pos h1]
        have HE := Lib.hid e
        have t1 : ((n : Int) % 2 == 1) = true := by rw [beq_iff_eq]; omega
        clear e h1 h0
        go_enter Try.func23, Try.ntmps23
        go_wp2_with fail
        rw [HA.out, show (n : Int) / 2 = ((n / 2 : Nat) : Int) from by omega]
        refine (IH.out _ _ _ hmm HP.out (by omega)).mono ?_
        rintro e w' ⟨rfl, rfl⟩
        have HW := Lib.hid (MixMath.mm_walk (MixMath.pow f (MixMath.mm a a) (n / 2)) a)
        generalize MixMath.pow f (MixMath.mm a a) (n / 2) = p at *
        go_wp2
        go_ret
        exact ⟨by rw [HE.out]; exact ret_int HW.out, rfl⟩
      · have e : MixMath.pow (f + 1) a n = MixMath.pow f (MixMath.mm a a) (n / 2) := by rw [MixMath.pow, if_neg h0, if_neg h1]
        have HE := Lib.hid e
        have t1 : ((n : Int) % 2 == 1) = false := by rw [beq_eq_false_iff_ne]; omega
        clear e h1 h0
        go_enter Try.func23, Try.ntmps23
        go_wp2_with fail
        rw [HA.out, show (n : Int) / 2 = ((n / 2 : Nat) : Int) from by omega]
        refine (IH.out _ _ _ hmm HP.out (by omega)).mono ?_
        rintro e w' ⟨rfl, rfl⟩
        generalize MixMath.pow f (MixMath.mm a a) (n / 2) = p at *
        go_wp2
        go_ret
        exact ⟨by rw [HE.out]; rfl, rfl⟩

theorem power_int (a n : Nat) (w : World) (p : Nat) (ha : a < MixMath.M) (hn : n < 2 ^ 63) (hp : MixMath.pow 63 a n = p) :
    Calls Try.prog 23 #[.int .u64 a, .int .u64 n] w fun e w' => e = .returned (.int .u64 p) ∧ w = w' := by
  have h := power_any 63 a n w ha hn (Nat.le_refl _)
  rw [hp] at h
  exact h

set_option maxRecDepth 100000 in
set_option maxHeartbeats 400000 in
theorem refUnmix_any (y : Nat) (w : World) (h : y < MixMath.M) :
    Calls Try.prog 14 #[.int .u64 y] w fun e w' => e = .returned (.int .u64 (MixMath.unmixN y : Nat)) ∧ w = w' := by
  have P2 := fun w => power_int MixMath.F2 4611686018427387903 w MixMath.I2 (by decide) (by decide) MixMath.pow_F2
  have P1 := fun w => power_int MixMath.F1 4611686018427387903 w MixMath.I1 (by decide) (by decide) MixMath.pow_F1
  have H2 := Lib.hid P2
  have H1 := Lib.hid P1
  clear P1 P2
  have b31 := MixMath.mm_lt MixMath.I2 (MixMath.ux 31 y)
  have b27 := MixMath.mm_lt MixMath.I1 (MixMath.ux 27 (MixMath.mm MixMath.I2 (MixMath.ux 31 y)))
  have W2 := Lib.hid (MixMath.mm_walk (MixMath.ux 31 y) MixMath.I2)
  have W1 := Lib.hid (MixMath.mm_walk (MixMath.ux 27 (MixMath.mm MixMath.I2 (MixMath.ux 31 y))) MixMath.I1)
  go_enter Try.func14, Try.ntmps14
  go_wp2_with fail
  refine (back_any y 31 _ h (by omega) (by omega)).mono ?_
  rintro e w' ⟨rfl, rfl⟩
  go_wp2_with fail
  refine (H2.out _).mono ?_
  rintro e w' ⟨rfl, rfl⟩
  go_wp2_with fail
  rw [W2.out]
  refine (back_any _ 27 _ b31 (by omega) (by omega)).mono ?_
  rintro e w' ⟨rfl, rfl⟩
  go_wp2_with fail
  refine (H1.out _).mono ?_
  rintro e w' ⟨rfl, rfl⟩
  go_wp2_with fail
  rw [W1.out]
  refine (back_any _ 30 _ b27 (by omega) (by omega)).mono ?_
  rintro e w' ⟨rfl, rfl⟩
  go_wp2
  go_ret
  exact ⟨rfl, rfl⟩

/-- '[]byte(s)': a new slice that holds the bytes; nothing old has turned -/
theorem bytes_run (P : Program) (w : World) (src dst e : TypeId) (s : ByteArray) (hs : P.underlying src = some .string) (hd : P.underlying dst = some (.slice e)) (he : P.underlying e = some (.int .u8)) :
    ∃ (cap : Nat) (W : World), (convert src dst (.string s)).run P w = .ok (.slice (some ⟨w.heap.size, 0, none⟩) s.size cap) W ∧ Below w.heap.size w W ∧ W.heap.size = w.heap.size + 1 ∧
      ∀ j (h : j < s.size), W.cell? ⟨w.heap.size, j, none⟩ = some (.int .u8 (s[j].toNat : Int)) := by
  refine ⟨_, _, Lib.run_convert_string_bytes w src dst e s hs hd he, ⟨rfl, rfl, rfl, ?_, ?_⟩, Lib.bytesWorld_size w e s, ?_⟩
  · rw [Lib.bytesWorld_size]; omega
  · exact fun k hk => Lib.bytesWorld_at_old w e s k hk
  · intro j hj
    rw [Lib.bytesWorld_cell w e s j hj]
    have : s.data.toList.getD j 0 = s[j] := by
      rw [List.getD_eq_getElem?_getD, List.getElem?_eq_getElem (by simpa using hj)]
      rfl
    rw [this]

theorem hash2 (X : Int) : IntKind.u64.wrap (IntKind.u64.wrap (X * 1099511627776) + IntKind.u64.wrap (X * 435)) = IntKind.u64.wrap (X * 1099511628211) := by
  simp only [IntKind.wrap_u64]
  omega

set_option maxRecDepth 100000 in
set_option maxHeartbeats 400000 in
theorem refHash_any (s : ByteArray) (w : World) (hs : s.size ≤ 200) :
    Calls Try.prog 15 #[.string s] w fun e w' => e = .returned (.int .i64 (ofI s.data.toList)) ∧ Below w.heap.size w w' := by
  obtain ⟨cap, W, hrun, hb, hsz, hcell⟩ := bytes_run Try.prog w 9 44 5 s Try.underlying9 Try.underlying44 Try.underlying5
  have HC := Lib.hid hcell
  have HZ := Lib.hid hsz
  clear hcell hsz
  go_enter Try.func15, Try.ntmps15
  go_wp2
  clear hrun
  go_loop [3, 9] (fun h i => ∃ k : Nat, k ≤ s.size ∧ i = .int .i64 k ∧ h = .int .u64 (hashN (s.data.toList.take k) : Nat)) (fun _ i => s.size - (intOf i).toNat)
  case atStart => exact ⟨0, Nat.zero_le _, rfl, rfl⟩
  case round =>
    obtain ⟨k, hk, rfl, rfl⟩ := hrel
    have hl := hashN_lt (s.data.toList.take k)
    by_cases hlt : k < s.size
    · have HS := Lib.hid (hashN_snoc (s.data.toList.take k) s[k])
      have HT := Lib.hid (take_snoc s k hlt)
      have hc := HC.out k hlt
      have HW := Lib.hid (hash_walk _ s[k] hl)
      go_wp2
      go_round
      case rel => exact ⟨k + 1, by omega, by go_num, by rw [hash2, HW.out, HT.out, HS.out]⟩
      case measure => simp [intOf]; omega
    · have hk' : s.data.toList.take k = s.data.toList := List.take_of_length_le (by simp; omega)
      rw [hk']
      clear hk'
      have hl' := hashN_lt s.data.toList
      have hm := mix_small (hashN s.data.toList)
      go_wp2_with fail
      refine (refMix_any _ hl' _).mono ?_
      rintro e w' ⟨rfl, rfl⟩
      go_wp2
      go_ret
      exact ⟨rfl, hb⟩

end Go.Proofs.Ytmaflidkejapoaa
