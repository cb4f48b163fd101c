/- The contract of mix.Of: the hash of a text of at most 200 bytes, or the error of a longer one. -/
import Derived.Test.YtfocmnjkoominaaMixOne
import Derived.Lib.Hide
namespace Go.Proofs.Ytfocmnjkoominaa
open Go.ChangeShapes Go.WideShapes Go.ChangeAt Go.RowKit

/-- the factor of the hash, kept behind a name -/
def HF : Nat := 1099511628211
def hashStep (h : Nat) (b : UInt8) : Nat := MixMath.mm HF (h ^^^ b.toNat)
def H0 : Nat := 14695981039346656037
def hashN (l : List UInt8) : Nat := l.foldl hashStep H0
theorem hashStep_lt (h : Nat) (b : UInt8) : hashStep h b < MixMath.M := MixMath.mm_lt _ _
theorem hashN_snoc (l : List UInt8) (b : UInt8) : hashN (l ++ [b]) = hashStep (hashN l) b := by
  unfold hashN
  rw [List.foldl_append, List.foldl_cons, List.foldl_nil]
theorem hashN_nil : hashN [] = H0 := rfl
theorem hashN_lt (l : List UInt8) : hashN l < MixMath.M := by
  rcases List.eq_nil_or_concat l with rfl | ⟨m, b, rfl⟩
  · rw [hashN_nil]; decide
  · rw [List.concat_eq_append, hashN_snoc]; exact hashStep_lt _ _
theorem take_snoc (s : ByteArray) (k : Nat) (h : k < s.size) : s.data.toList.take (k + 1) = s.data.toList.take k ++ [s[k]] := by
  rw [List.take_succ_eq_append_getElem (by simpa using h)]; rfl
theorem wrap_u64_byte (b : UInt8) : IntKind.u64.wrap (b.toNat : Int) = (b.toNat : Int) := by
  have := b.toNat_lt
  rw [IntKind.wrap_u64]; omega
theorem hash_walk (h : Nat) (b : UInt8) (hh : h < MixMath.M) : IntKind.u64.wrap (bits BinOp.xor IntKind.u64 (h : Int) (IntKind.u64.wrap (b.toNat : Int)) * 1099511628211) = ((hashStep h b : Nat) : Int) := by
  rw [wrap_u64_byte]
  have hb : b.toNat < 18446744073709551616 := by have := b.toNat_lt; omega
  have e := MixMath.mm_walk (h ^^^ b.toNat) HF
  rw [bits_xor_u64_nat _ _ hh hb]
  exact e

theorem mix_small (x : Nat) : (MixMath.mixN x : Int) < 18446744073709551616 := by
  have h : MixMath.mixN x < 18446744073709551616 := MixMath.mixN_lt _
  omega

/-- the hash of a text -/
def ofI (l : List UInt8) : Int := (MixMath.mixN (hashN l) : Int) / 256
theorem ofI_bd (l : List UInt8) : 0 ≤ ofI l ∧ ofI l < 72057594037927936 := by
  have h := mix_small (hashN l)
  unfold ofI
  omega

set_option maxHeartbeats 400000 in
theorem of_big (s : ByteArray) (w : World) (hs : 200 < s.size) :
    Calls Try.prog 29 #[.string s] w fun e w' => e = .returned (.tuple #[.int .i64 0, .int .i64 2]) ∧ w = w' := by
  go_enter Try.func29, Try.ntmps29
  go_wp2
  go_ret2
  exact ⟨rfl, rfl⟩

set_option maxHeartbeats 400000 in
theorem of_small (s : ByteArray) (w : World) (hs : s.size ≤ 200) :
    Calls Try.prog 29 #[.string s] w fun e w' => e = .returned (.tuple #[.int .i64 (ofI s.data.toList), .int .i64 0]) ∧ w = w' := by
  have hc : decide (200 < (s.size : Int)) = false := by simp; omega
  go_enter Try.func29, Try.ntmps29
  go_wp2
  go_loop [4, 5] (fun h i => ∃ k : Nat, k ≤ s.size ∧ i = .int .i64 k ∧ h = .int .u64 (hashN (s.data.toList.take k) : Nat)) (fun _ i => s.size - (intOf i).toNat)
  case atStart => exact ⟨0, Nat.zero_le _, rfl, rfl⟩
  case round =>
    obtain ⟨k, hk, rfl, rfl⟩ := hrel
    have hl := hashN_lt (s.data.toList.take k)
    by_cases hlt : k < s.size
    · have HS := Lib.hid (hashN_snoc (s.data.toList.take k) s[k])
      have HT := Lib.hid (take_snoc s k hlt)
      have HW := Lib.hid (hash_walk _ s[k] hl)
      go_wp2
      go_round
      case rel => exact ⟨k + 1, by omega, by go_num, by rw [HW.out, HT.out, HS.out]⟩
      case measure => simp [intOf]; omega
    · have hk' : s.data.toList.take k = s.data.toList := List.take_of_length_le (by simp; omega)
      rw [hk']
      clear hk'
      have hl' := hashN_lt s.data.toList
      have hm := mix_small (hashN s.data.toList)
      go_wp2_with fail
      refine (mix_any _ hl' _).mono ?_
      rintro e w' ⟨rfl, rfl⟩
      go_wp2
      go_ret2
      exact ⟨rfl, rfl⟩

/-- two integers, whatever they are; the world stands -/
def SomeTwo (w : World) (e : Ending) (w' : World) : Prop := ∃ a b : Int, e = .returned (.tuple #[.int .i64 a, .int .i64 b]) ∧ w = w'
theorem of_some (s : ByteArray) (w : World) : Calls Try.prog 29 #[.string s] w (SomeTwo w) := by
  by_cases h : s.size ≤ 200
  · exact (of_small s w h).mono fun _ _ ⟨he, hw⟩ => ⟨_, _, he, hw⟩
  · exact (of_big s w (by omega)).mono fun _ _ ⟨he, hw⟩ => ⟨_, _, he, hw⟩

end Go.Proofs.Ytfocmnjkoominaa
