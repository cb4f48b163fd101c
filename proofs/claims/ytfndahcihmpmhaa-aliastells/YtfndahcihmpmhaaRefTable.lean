/- The contract of the document's own check of a table (culref.Table). -/
import Derived.Test.YtfndahcihmpmhaaAliasPick
import Derived.Test.YtfndahcihmpmhaaRefWithin
import Derived.BigQuiet
namespace Go.Proofs.Ytfndahcihmpmhaa
open Go.ChangeShapes Go.WideShapes Go.ChangeAt Go.RowKit

set_option maxRecDepth 100000 in
set_option maxHeartbeats 2000000 in
theorem refTable_any (A : Int) (a b : Option Addr) (la ca lb cb : Nat) (O R : List Int) (w : World) (h1 : Tab w a la ca 1 (O.map iC)) (h2 : Tab w b lb cb 1 (R.map iC)) :
    Calls Try.prog 24 #[aliasV A a la ca b lb cb] w fun e w' => e = .returned (.int .i64 (aliasE A O R)) ∧ Below w.heap.size w w' := by
  have l1 := h1.hlen
  have l2 := h2.hlen
  have m1 := h1.hmax
  have e1 := h1.hle
  have m2 := h2.hmax
  have e2 := h2.hle
  rw [List.length_map] at l1 l2
  unfold maxLen at m1 m2
  have hb : Below w.heap.size w (w.alloc (.cells #[.int .i64 A, .slice a la ca, .slice b lb cb] 33)) := (Below.refl _ _).alloc (Nat.le_refl _) _
  have HB := Lib.hid hb
  have H1 := Lib.hid h1
  have H2 := Lib.hid h2
  have L1 := Lib.hid l1
  have L2 := Lib.hid l2
  have HX : Hid ((w.alloc (.cells #[.int .i64 A, .slice a la ca, .slice b lb cb] 33)).heap[w.heap.size]? = some (.cells #[.int .i64 A, .slice a la ca, .slice b lb cb] 33 (0, 0))) := Lib.hid (MapKept.heap_alloc w _).1
  have HW := Lib.hid (fun W => within_ref A 1 40000000000000 W)
  unfold aliasE
  unfold aliasV
  rw [l1, l2]
  clear h1 h2 l1 l2 hb
  by_cases c1 : 40 < la
  · rw [if_pos (Or.inl c1)]
    go_enter Try.func24, Try.ntmps24
    go_wp2
    go_ret
    exact ⟨rfl, HB.out⟩
  have c1' : la ≤ 40 := by omega
  by_cases c2 : 40 < lb
  · rw [if_pos (Or.inr c2)]
    clear c1
    go_enter Try.func24, Try.ntmps24
    go_wp2
    go_ret
    exact ⟨rfl, HB.out⟩
  have c2' : lb ≤ 40 := by omega
  rw [if_neg (show ¬(40 < la ∨ 40 < lb) by omega)]
  clear c1 c2
  by_cases c4 : la = 0
  · rw [if_pos (Or.inr c4)]
    subst c4
    go_enter Try.func24, Try.ntmps24
    go_wp2
    go_ret
    exact ⟨rfl, HB.out⟩
  have t1 : ((la : Int) == 0) = false := by rw [beq_eq_false_iff_ne]; omega
  by_cases c3 : la = lb
  case neg =>
    rw [if_pos (Or.inl c3)]
    have t : ((lb : Int) != (la : Int)) = true := by rw [bne_iff_ne]; omega
    clear c3 c4
    go_enter Try.func24, Try.ntmps24
    go_wp2
    go_ret
    exact ⟨rfl, HB.out⟩
  subst c3
  have t0 : ((la : Int) != (la : Int)) = false := by simp
  rw [if_neg (show ¬(la ≠ la ∨ la = 0) by omega)]
  have c4' : 1 ≤ la := by omega
  clear c4
  by_cases c5 : A < 1 ∨ 40000000000000 < A
  · rw [if_pos c5]
    have hx : (decide (1 ≤ A) && decide (A ≤ 40000000000000)) = false := by
      rw [Bool.and_eq_false_iff, decide_eq_false_iff_not, decide_eq_false_iff_not]; omega
    rw [hx] at HW
    clear c5 hx
    go_enter Try.func24, Try.ntmps24
    go_wp2_with fail
    refine (HW.out _).mono ?_
    rintro e w1 ⟨rfl, rfl⟩
    go_wp2
    go_ret
    exact ⟨rfl, HB.out⟩
  rw [if_neg c5]
  have hx : (decide (1 ≤ A) && decide (A ≤ 40000000000000)) = true := by
    rw [Bool.and_eq_true, decide_eq_true_iff, decide_eq_true_iff]; omega
  rw [hx] at HW
  clear c5 hx
  obtain ⟨B, hB⟩ : ∃ B, colsB A la O R = B := ⟨_, rfl⟩
  rw [hB]
  have HB0 : Hid (colsB A la (O.drop 0) (R.drop 0) = B) := Lib.hid hB
  clear hB
  go_enter Try.func24, Try.ntmps24
  go_wp2_with fail
  refine (HW.out _).mono ?_
  rintro e w1 ⟨rfl, rfl⟩
  go_wp2_with fail
  clear t0 t1 HW
  generalize w.alloc (.cells #[.int .i64 A, .slice a la ca, .slice b la cb] 33) = w0 at *
  go_loopg [33] la (fun g i wr => ∃ k : Nat, k + g = la ∧ i = .int .i64 k ∧ Hid (colsB A la (O.drop k) (R.drop k) = B) ∧ Hid (wr.heap[w.heap.size]? = some (.cells #[.int .i64 A, .slice a la ca, .slice b la cb] 33 (0, 0))) ∧ Below w.heap.size w wr)
  case atStart => exact ⟨0, by omega, rfl, HB0, HX, HB.out⟩
  case round =>
    clear HB HB0 HX
    obtain ⟨k, hk0, rfl, HB, HX, hb⟩ := hrel
    have HJ := Lib.hid hk0
    have hk : k ≤ la := by omega
    clear hk0
    obtain ⟨⟨x0, x1, x2⟩, _, _, _⟩ := alias_cells HX.out
    by_cases hlt : k < la
    · obtain ⟨o, ho⟩ : ∃ z, O[k]? = some z := ⟨_, List.getElem?_eq_getElem (by rw [L1.out]; exact hlt)⟩
      obtain ⟨r, hr⟩ : ∃ z, R[k]? = some z := ⟨_, List.getElem?_eq_getElem (by rw [L2.out]; exact hlt)⟩
      obtain ⟨b1, o1, ha1, hbs1, q1⟩ := H1.out.one hb (map_get ho)
      obtain ⟨b2, o2, ha2, hbs2, q2⟩ := H2.out.one hb (map_get hr)
      have HZ := Lib.hid (colsB_step (A := A) (n := la) ho hr)
      subst ha1 ha2
      clear ho hr
      have HC := Lib.hid (fun W => (within_ref o 0 A W).mono fun _ _ h => And.intro h.1 h.2.symm)
      have HD := Lib.hid (fun W => (within_ref r 0 ((la : Int) - 1) W).mono fun _ _ h => And.intro h.1 h.2.symm)
      rw [show (decide (r ≤ (la : Int) - 1)) = decide (r < (la : Int)) from decide_eq_decide.2 (by omega)] at HD
      obtain ⟨C, hC⟩ : ∃ C, (decide (0 ≤ o) && decide (o ≤ A)) = C := ⟨_, rfl⟩
      obtain ⟨D, hD⟩ : ∃ D, (decide (0 ≤ r) && decide (r < (la : Int))) = D := ⟨_, rfl⟩
      rw [hC] at HC HZ
      rw [hD] at HD HZ
      rw [HB.out] at HZ
      clear hC hD
      cases C
      · obtain rfl : B = false := HZ.out.trans (by simp)
        go_wp2_with fail
        go_quiet (first | (go_at_call_of 40 (Value.int .i64 o); exact Calls.quiet_of_same (HC.out _)))
        go_wp2
        go_ret
        exact ⟨rfl, below_drewN hb _⟩
      · cases D
        · obtain rfl : B = false := HZ.out.trans (by simp)
          go_wp2_with fail
          go_quiet (first | (go_at_call_of 40 (Value.int .i64 o); exact Calls.quiet_of_same (HC.out _)) | (go_at_call_of 40 (Value.int .i64 r); exact Calls.quiet_of_same (HD.out _)))
          go_wp2
          go_ret
          exact ⟨rfl, below_drewN hb _⟩
        · rw [Bool.true_and, Bool.true_and] at HZ
          go_wp2_with fail
          go_quiet (first | (go_at_call_of 40 (Value.int .i64 o); exact Calls.quiet_of_same (HC.out _)) | (go_at_call_of 40 (Value.int .i64 r); exact Calls.quiet_of_same (HD.out _)))
          go_wp2
          go_roundg (la - (k + 1))
          case measure => have := HJ.out; omega
          case rel => exact ⟨k + 1, by omega, by go_num, Lib.hid HZ.out.symm, HX, below_drewN hb _⟩
    · obtain rfl : k = la := by omega
      obtain rfl : B = true := by
        rw [← HB.out, List.drop_of_length_le (by rw [L1.out]; omega)]; rfl
      go_wp2
      go_ret
      exact ⟨rfl, hb⟩
end Go.Proofs.Ytfndahcihmpmhaa
