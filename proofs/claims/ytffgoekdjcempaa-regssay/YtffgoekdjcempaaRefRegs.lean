/- The contracts of the document's own test of registers and of its noughts (culref.Regs, Noughts). -/
import Derived.Test.YtffgoekdjcempaaRegsMath
import Derived.Test.YtffgoekdjcempaaRefWithin
import Derived.Test.YtffgoekdjcempaaContains
import Derived.Test.YtffgoekdjcempaaTabFind
import Derived.Test.YtffgoekdjcempaaLit
import Derived.Deep.DeepCutAuto
namespace Go.Proofs.Ytffgoekdjcempaa
open Go.ChangeShapes Go.WideShapes Go.ChangeAt Go.RowKit
open Regs

set_option maxHeartbeats 400000 in
theorem regsClo_any (n : Int) (w : World) : Calls Try.prog 44 #[.int .i64 n] w fun e w' => e = .returned (.bool (badR n)) ∧ Below w.heap.size w w' := by
  have H := Lib.hid (within_ref n 0 57 w)
  have HO := Lib.hid (badR_not n)
  generalize (decide (0 ≤ n) && decide (n ≤ 57)) = c at *
  go_enter Try.func44, Try.ntmps44
  go_wp2_with fail
  refine H.out.mono ?_
  rintro e w1 ⟨rfl, hw⟩
  rw [← hw]
  clear hw
  go_wp2
  go_ret
  exact ⟨by rw [← HO.out]; rfl, Below.refl _ _⟩

set_option maxRecDepth 100000 in
set_option maxHeartbeats 2000000 in
theorem refRegs_one (b c : Nat) (q : Option Addr) (n cq : Nat) (l : List Int) (w : World) (hc : w.cell? ⟨b, 0, none⟩ = some (.slice q n cq)) (h : Tab w q n cq 1 (l.map iC)) :
    Calls Try.prog 16 #[.slice (some ⟨b, 0, none⟩) 1 c] w fun e w' => e = .returned (.int .i64 (regE l)) ∧ Below w.heap.size w w' := by
  have hl := h.hlen
  rw [List.length_map] at hl
  have hle := h.hle
  have hm := h.hmax
  unfold maxLen at hm
  have hb0 : Below w.heap.size w (w.alloc (.cells #[.int .i64 1, .int .i64 2, .int .i64 4, .int .i64 8, .int .i64 16] 3)) := (Below.refl _ _).alloc (Nat.le_refl _) _
  have HB0 := Lib.hid hb0
  have ht := tab_lit w 3 1 5 (([1, 2, 4, 8, 16] : List Int).map iC) #[.int .i64 1, .int .i64 2, .int .i64 4, .int .i64 8, .int .i64 16] rfl rfl (rows_of iC_len _) (by decide) _ rfl
  have HC := Lib.hid (contains_ints _ 5 5 [1, 2, 4, 8, 16] (n : Int) _ ht (lenR n) lenR_mem)
  obtain ⟨r, hr⟩ : ∃ r, regE l = r := ⟨_, rfl⟩
  rw [hr]
  unfold regE at hr
  rw [hl] at hr
  have HR := Lib.hid hr
  have HT := Lib.hid (h.below hb0)
  have HCC := Lib.hid hc
  clear hr ht h hb0 hl
  go_enter Try.func16, Try.ntmps16
  go_wp2_with fail
  go_loopg [7] 1 (fun g i wr => (g = 1 ∧ i = .int .i64 0 ∧ wr = w) ∨ (g = 0 ∧ i = .int .i64 1 ∧ r = 0 ∧ Hid (Below w.heap.size w wr)))
  case atStart => exact Or.inl ⟨rfl, rfl, rfl⟩
  case round =>
    rcases hrel with ⟨rfl, rfl, rfl⟩ | ⟨rfl, rfl, rfl, HB⟩
    · clear hc
      have hc := HCC.out
      generalize hgen : lenR n = t at *
      go_upto_region 4 with fail
      clear hc
      cases t
      · rw [if_neg (by decide)] at HR
        obtain rfl : r = 7 := HR.out.symm
        go_wp2_with fail
        refine HC.out.mono ?_
        rintro e w1 ⟨rfl, hb⟩
        rw [← hb]
        clear hb
        go_wp2
        go_ret
        exact ⟨rfl, HB0.out⟩
      · rw [if_pos rfl] at HR
        go_wp2_with fail
        refine HC.out.mono ?_
        rintro e w1 ⟨rfl, hb⟩
        rw [← hb]
        have HF := Lib.hid (containsFunc0_any 44 badR q n cq l _ HT.out (fun _ _ => rfl) (fun x _ W _ => regsClo_any x W))
        clear hb
        cases hany : l.any badR
        · rw [hany] at HF HR
          rw [if_neg (by decide)] at HR
          obtain rfl : r = 0 := HR.out.symm
          clear hany
          go_wp2_with fail
          refine HF.out.mono ?_
          rintro e w2 ⟨rfl, hb⟩
          have HB2 := Lib.hid (below_on HB0.out hb)
          clear hb
          go_wp2_with fail
          go_roundg 0
          case measure => omega
          case rel => exact Or.inr ⟨rfl, by go_num, by trivial, HB2⟩
        · rw [hany] at HF HR
          rw [if_pos rfl] at HR
          obtain rfl : r = 1 := HR.out.symm
          clear hany
          go_wp2_with fail
          refine HF.out.mono ?_
          rintro e w2 ⟨rfl, hb⟩
          have HB2 := Lib.hid (below_on HB0.out hb)
          clear hb
          go_wp2
          go_ret
          exact ⟨rfl, HB2.out⟩
    · go_wp2
      go_ret
      exact ⟨rfl, HB.out⟩

set_option maxRecDepth 100000 in
set_option maxHeartbeats 1000000 in
theorem noughts_any (n of : Int) (w : World) (h0 : 0 ≤ n) (h1 : n ≤ 9223372036854775807) (h2 : 1 ≤ of) :
    Calls Try.prog 20 #[.int .i64 n, .int .i64 of] w fun e w' => e = .returned (.int .i64 (noughtsR n of)) ∧ w' = w := by
  have hq : Int.tdiv n of = n / of := Int.tdiv_eq_ediv_of_nonneg h0
  have hq0 : 0 ≤ n / of := Int.ediv_nonneg h0 (by omega)
  have hq1 : n / of ≤ n := Int.ediv_le_self of h0
  unfold noughtsR
  obtain ⟨m, hm⟩ : ∃ m : Nat, n / of = (m : Int) := ⟨(n / of).toNat, by omega⟩
  rw [hm] at hq hq0 hq1 ⊢
  rw [show ((m : Int)).toNat = m from rfl]
  have hm2 : (m : Int) ≤ 9223372036854775807 := by omega
  have hne : of ≠ 0 := by omega
  have hne2 : (of == 0) = false := by simpa using hne
  have hof : of ≠ -1 := by omega
  have HL := Lib.hid (len_most (x := m) (by omega))
  clear hm h2
  go_enter Try.func20, Try.ntmps20
  go_wp2_with fail
  go_loopg [0, 5] m (fun g x out wr => ∃ k : Nat, k ≤ g ∧ k ≤ m ∧ x = .int .i64 k ∧ out = .int .i64 (57 - ((Lib.bitLen m : Nat) : Int) + ((Lib.bitLen k : Nat) : Int)) ∧ wr = w)
  case atStart => exact ⟨m, Nat.le_refl _, Nat.le_refl _, rfl, by congr 1; omega, rfl⟩
  case round =>
    obtain ⟨k, hkg, hkm, rfl, rfl, rfl⟩ := hrel
    have HK := Lib.hid (len_most (x := k) (by omega))
    by_cases hk : k = 0
    · subst hk
      rw [len_zero]
      go_wp2
      go_ret
      refine ⟨?_, rfl⟩
      show Ending.returned (.int .i64 (57 - ((Lib.bitLen m : Nat) : Int) + ((0 : Nat) : Int))) = _
      rw [Int.natCast_zero, Int.add_zero]
    · have hd : Int.tdiv (k : Int) 2 = ((k / 2 : Nat) : Int) := by rw [Int.tdiv_eq_ediv_of_nonneg (by omega)]; omega
      have HH := Lib.hid (half_len hk (by omega))
      have hk1 : 0 < k := by omega
      have hb1 := HL.out
      have hb2 := HK.out
      rw [HH.out] at hb2 ⊢
      have hk2 : k / 2 ≤ k - 1 := by omega
      generalize Lib.bitLen m = M at *
      clear hk
      go_wp2
      go_roundg (gk - 1)
      case measure => omega
      case rel => exact ⟨k / 2, by omega, by omega, by go_num, by go_num, rfl⟩
end Go.Proofs.Ytffgoekdjcempaa
