/- sort.breakPatterns over any value of less than fifty elements that sort.Sort can take. -/
import Derived.Test.YtffgoekdjcempaaGreatSrtPart
import Derived.Test.YtffgoekdjcempaaGreatShelf
import Derived.Sort.LotD5
namespace Go.Proofs.YtffgoekdjcempaaGreat
open Go.ChangeShapes Go.WideShapes Go.ChangeAt Go.RowKit

def brRest (a L M : Nat) : Nat → Nat → UInt64 × Array Int → Array Int
  | 0, _, st => st.2
  | k + 1, idx, st => brRest a L M k (idx + 1) (Sort.breakStep a L M st idx)
theorem break_eq (d : Array Int) {a b : Nat} (h : 8 ≤ b - a) : Sort.breakPatterns d a b = brRest a (b - a) (1 <<< Sort.bitsLen (b - a)) 3 (a + (b - a) / 4 * 2 - 1) (UInt64.ofNat (b - a), d) := by
  unfold Sort.breakPatterns
  simp only
  rw [if_pos h]
  rfl
theorem pow_len {L : Nat} (h1 : 1 ≤ L) (h2 : L ≤ 49) : 1 ≤ 1 <<< Sort.bitsLen L ∧ 1 <<< Sort.bitsLen L ≤ 2 * L := by
  have : ∀ x : Fin 50, 1 ≤ x.1 → 1 ≤ 1 <<< Sort.bitsLen x.1 ∧ 1 <<< Sort.bitsLen x.1 ≤ 2 * x.1 := by decide +kernel
  exact this ⟨L, by omega⟩ h1

variable {S : World → Array Int → Prop} {base : Nat} {T : TypeId} {rv : Value} {lt : Int → Int → Bool} {n : Nat}

set_option maxRecDepth 100000 in
set_option maxHeartbeats 4000000 in
theorem breakPatterns_s (H : Srt S base T rv lt n) (a b : Nat) (d : Array Int) (w : World) (hS : S w d) (hab : 12 < b - a) (hb : b ≤ n) :
    Calls Tryz.prog 72 #[.iface T rv, .int .i64 a, .int .i64 b] w fun e w' => e = .returned (.tuple #[]) ∧ S w' (Sort.breakPatterns d a b) := by
  have hm := H.most
  rw [break_eq d (by omega)]
  obtain ⟨L, hL⟩ : ∃ L, b - a = L := ⟨_, rfl⟩
  rw [hL] at hab ⊢
  obtain rfl : b = a + L := by omega
  obtain ⟨hM1, hM2⟩ := pow_len (L := L) (by omega) (by omega)
  have CN := Lib.hid (fun W => nextPowerOfTwo L (by omega) W)
  generalize 1 <<< Sort.bitsLen L = M at *
  have hbs := H.base_le hS
  have HAL := Lib.hid (H.below hS ((Below.refl _ _).alloc hbs (.cells #[.int .u64 L] 111)))
  have HX := Lib.hid (MapKept.heap_alloc w (.cells #[.int .u64 L] 111)).1
  obtain ⟨D, hD⟩ : ∃ D, brRest a L M 3 (a + L / 4 * 2 - 1) (UInt64.ofNat L, d) = D := ⟨_, rfl⟩
  rw [hD]
  have HD0 := Lib.hid hD
  have hq : Int.tdiv (L : Int) 4 = ((L / 4 : Nat) : Int) := by rw [Int.tdiv_eq_ediv_of_nonneg (by omega)]; omega
  have hq1 : L / 4 * 4 ≤ L := Nat.div_mul_le_self _ _
  have hq2 : 3 ≤ L / 4 := by omega
  generalize L / 4 = q at *
  have hLz : (a : Int) + (L : Int) - (a : Int) = (L : Int) := by omega
  have HH := Lib.hid H
  have h8 : (8 : Int) ≤ (L : Int) := by omega
  clear H hS hD hL
  go_enter Tryz.func72, Tryz.ntmps72
  go_wp2_with fail
  refine (CN.out _).mono ?_
  rintro e w1 ⟨rfl, rfl⟩
  go_wp2_with fail
  obtain ⟨rb, hrb⟩ : ∃ rb, w.heap.size = rb := ⟨_, rfl⟩
  rw [hrb] at HX hbs ⊢
  obtain ⟨w0, hw0⟩ : ∃ w0, w.alloc (.cells #[.int .u64 L] 111) = w0 := ⟨_, rfl⟩
  rw [hw0] at HX HAL ⊢
  clear hw0 hrb CN
  go_loopg [9] 3 (fun g x wr => ∃ (k : Nat) (r : UInt64) (dk : Array Int), x = .int .i64 ((a : Int) + (q : Int) * 2 - 1 + (k : Int)) ∧ k + g = 3 ∧ Hid (brRest a L M g (a + q * 2 - 1 + k) (r, dk) = D) ∧ Hid (S wr dk) ∧ Hid (wr.heap[rb]? = some (.cells #[.int .u64 (r.toNat : Int)] 111 (0, 0))))
  case atStart =>
    refine ⟨0, UInt64.ofNat L, d, by congr 1; omega, rfl, HD0, HAL, ?_⟩
    have e : (UInt64.ofNat L).toNat = L := by simp; omega
    rw [e]
    exact HX
  case round =>
    clear HD0 HAL HX
    obtain ⟨k, r, dk, rfl, hkg, HD, HS, HX⟩ := hrel
    cases gk with
    | zero =>
      obtain rfl : k = 3 := by omega
      obtain rfl : dk = D := HD.out
      go_wp2
      go_end0
      exact ⟨rfl, HS.out⟩
    | succ g =>
      have hR1 := Sort.xorNext_toNat r
      obtain ⟨R, hR⟩ : ∃ R, r.toNat = R := ⟨_, rfl⟩
      have lR : R < 18446744073709551616 := by rw [← hR]; exact r.toNat_lt
      rw [hR] at HX hR1
      have lR2 := Sort.xorNextN_lt R lR
      have c0 := cell_blk (i := 0) HX.out rfl
      have f0 := frozen_blk (i := 0) HX.out
      have CX := Lib.hid (xorshift_Next rb 0 R lR wr c0 f0)
      obtain ⟨R', hR'⟩ : ∃ R', Sort.xorNextN R = R' := ⟨_, rfl⟩
      rw [hR'] at CX lR2 hR1
      obtain ⟨O, hO⟩ : ∃ O, R' &&& (M - 1) = O := ⟨_, rfl⟩
      have lO : O ≤ M - 1 := by rw [← hO]; exact Nat.and_le_right
      have eAnd : bits .and .u64 (R' : Int) ((M : Int) - 1) = (O : Int) := by
        rw [show ((M : Int) - 1) = ((M - 1 : Nat) : Int) by omega, bits_and_u64_nat _ _ lR2 (by omega), hO]
      have HSn : Hid (S ((wr.setCell ⟨rb, 0, none⟩ (.int .u64 (R' : Int))).drewN 3) dk) := Lib.hid (HH.out.below HS.out (below_drewN ((Below.refl base wr).setCell (p := ⟨rb, 0, none⟩) hbs _) 3))
      have HXn : Hid (((wr.setCell ⟨rb, 0, none⟩ (.int .u64 (R' : Int))).drewN 3).heap[rb]? = some (.cells #[.int .u64 (R' : Int)] 111 (0, 0))) := Lib.hid (heap_setCell_same wr rb 0 _ _ (.int .u64 (R' : Int)) HX.out)
      generalize (wr.setCell ⟨rb, 0, none⟩ (.int .u64 (R' : Int))).drewN 3 = w2 at CX HSn HXn
      obtain ⟨V, hV⟩ : ∃ V, (if O ≥ L then O - L else O) = V := ⟨_, rfl⟩
      have hstep : Sort.breakStep a L M (r, dk) (a + q * 2 - 1 + k) = (Sort.xorNext r, Sort.swp dk (a + q * 2 - 1 + k) (a + V)) := by
        unfold Sort.breakStep
        simp only
        rw [hR1, hO, hV]
      have hdd := HD.out
      rw [brRest, hstep] at hdd
      have HDD := Lib.hid hdd
      rw [← hR1] at HXn
      have lV : V < L := by
        rw [← hV]
        split <;> omega
      obtain ⟨f9, r9, m9, e9, c9⟩ := HH.out.swap (a + q * 2 - 1 + k) (a + V) HSn.out (by omega) (by omega)
      rw [show ((a + q * 2 - 1 + k : Nat) : Int) = (a : Int) + (q : Int) * 2 - 1 + (k : Int) from by omega, show ((a + V : Nat) : Int) = (a : Int) + (V : Int) from by omega] at c9
      have C9 := Lib.hid c9
      have lM : M ≤ 98 := by omega
      clear hdd hstep hR1 c9 HD HS HX hR hR' hO c0 f0
      by_cases hOL : L ≤ O
      · rw [if_pos hOL] at hV
        have hV2 : (O : Int) - (L : Int) = (V : Int) := by omega
        clear hV
        go_wp2_with (first
          | (go_at_call 82; refine CX.out.mono ?_; rintro e w1 ⟨rfl, rfl⟩)
          | (go_at_fn f9; refine C9.out.mono ?_; rintro e w9 ⟨rfl, hs9, hk9⟩; have HS9 := Lib.hid hs9; have HX9 := Lib.hid ((hk9 rb hbs (Array.getElem?_eq_some_iff.1 HXn.out).1).trans HXn.out); clear hs9 hk9))
        go_roundg g
        case measure => omega
        case rel => exact ⟨k + 1, _, _, by go_num, by omega, HDD, HS9, HX9⟩
      · rw [if_neg hOL] at hV
        subst hV
        go_wp2_with (first
          | (go_at_call 82; refine CX.out.mono ?_; rintro e w1 ⟨rfl, rfl⟩)
          | (go_at_fn f9; refine C9.out.mono ?_; rintro e w9 ⟨rfl, hs9, hk9⟩; have HS9 := Lib.hid hs9; have HX9 := Lib.hid ((hk9 rb hbs (Array.getElem?_eq_some_iff.1 HXn.out).1).trans HXn.out); clear hs9 hk9))
        go_roundg g
        case measure => omega
        case rel => exact ⟨k + 1, _, _, by go_num, by omega, HDD, HS9, HX9⟩
end Go.Proofs.YtffgoekdjcempaaGreat
