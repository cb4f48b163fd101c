/- The contract of the program's table.Ask. -/
import Derived.Test.YtcfejbhoeichnaaTabCheck
namespace Go.Proofs.Ytcfejbhoeichnaa
open Go.ChangeShapes Go.WideShapes Go.ChangeAt Go.RowKit
open Tbl

set_option maxRecDepth 100000 in
set_option maxHeartbeats 2000000 in
theorem task_bad (W : Int) (x : Int) (a : Option Addr) (len cap : Nat) (R : List (List Int)) (P : Nat → Prop) (w : World) (hT : TTx w P a len cap R) (hE : tabE W R ≠ 0) :
    Calls Try.prog 18 #[.agg #[.int .i64 W, .slice a len cap], .int .i64 x] w fun e w' => e = .returned (.tuple #[.int .i64 0, .int .i64 (tabE W R)]) ∧ Below w.heap.size w w' := by
  have hb0 : Below w.heap.size w (w.alloc (.cells #[.int .i64 W, .slice a len cap] 39)) := (Below.refl _ _).alloc (Nat.le_refl _) _
  have k1 := (MapKept.heap_alloc w (.cells #[.int .i64 W, .slice a len cap] 39)).1
  obtain ⟨v0, hv0⟩ : ∃ v, w.alloc (.cells #[.int .i64 W, .slice a len cap] 39) = v := ⟨_, rfl⟩
  rw [hv0] at hb0 k1
  have HC := Lib.hid (tcheck_any W a len cap R P v0 (hT.below hb0))
  have t : (tabE W R != 0) = true := by simpa using hE
  clear hE
  generalize tabE W R = E at *
  have HV := Lib.hid hv0
  have HB0 := Lib.hid hb0
  have K1 := Lib.hid k1
  clear hT hv0 hb0 k1
  go_enter Try.func18, Try.ntmps18
  go_upto_region 1 with fail
  rw [HV.out]
  obtain ⟨X, hX⟩ : ∃ X, w.heap.size = X := ⟨_, rfl⟩
  rw [hX] at K1 ⊢
  have HX := Lib.hid hX
  clear HV hX
  obtain ⟨⟨a0, a1⟩, _⟩ := two_cells K1.out
  go_wp2_with fail
  clear a0 a1
  refine HC.out.mono ?_
  rintro e w1 ⟨rfl, hb1⟩
  have HB1 := Lib.hid (below_on HB0.out hb1)
  clear hb1 HC HB0
  go_wp2_with fail
  go_ret2
  exact ⟨rfl, HB1.out⟩

set_option maxRecDepth 100000 in
set_option maxHeartbeats 2000000 in
theorem task_ok (s : Nat) (x : Int) (a : Option Addr) (len cap : Nat) (R : List (List Int)) (P : Nat → Prop) (w : World) (hT : TTx w P a len cap R) (hG : GoodT s R) :
    Calls Try.prog 18 #[.agg #[.int .i64 s, .slice a len cap], .int .i64 x] w fun e w' => e = .returned (.tuple #[.int .i64 (askR s x R), .int .i64 0]) ∧ Below w.heap.size w w' := by
  have hb0 : Below w.heap.size w (w.alloc (.cells #[.int .i64 s, .slice a len cap] 39)) := (Below.refl _ _).alloc (Nat.le_refl _) _
  have k1 := (MapKept.heap_alloc w (.cells #[.int .i64 s, .slice a len cap] 39)).1
  obtain ⟨v0, hv0⟩ : ∃ v, w.alloc (.cells #[.int .i64 s, .slice a len cap] 39) = v := ⟨_, rfl⟩
  rw [hv0] at hb0 k1
  have hC := tcheck_any s a len cap R P v0 (hT.below hb0)
  rw [tabE_ok hG] at hC
  have HC := Lib.hid hC
  have hl := hT.len
  have h4 : len ≤ 4 := by rw [← hl]; exact hG.n2
  have HCl := Lib.hid (fun (i : Nat) (hi : i ≤ 4) W => column_any s (.slice a len cap) x i hG.s1 hG.s2 hi a len cap rfl W)
  obtain ⟨z, hz⟩ : ∃ z, askR s x R = z := ⟨_, rfl⟩
  rw [hz]
  have HZ := Lib.hid hz
  have HG := Lib.hid hG
  have HL := Lib.hid hl
  have HTT := Lib.hid (hT.below hb0)
  have HV := Lib.hid hv0
  have HB0 := Lib.hid hb0
  have K1 := Lib.hid k1
  clear hT hv0 hb0 k1 hC hl hG hz
  go_enter Try.func18, Try.ntmps18
  go_upto_region 1 with fail
  rw [HV.out]
  obtain ⟨X, hX⟩ : ∃ X, w.heap.size = X := ⟨_, rfl⟩
  rw [hX] at K1 ⊢
  have HX := Lib.hid hX
  clear HV hX
  obtain ⟨⟨a0, a1⟩, _⟩ := two_cells K1.out
  go_wp2_with fail
  clear a0 a1
  refine HC.out.mono ?_
  rintro e w1 ⟨rfl, hb1⟩
  replace K1 := Lib.hid (kept hb1 K1.out)
  replace HTT := Lib.hid (HTT.out.below hb1)
  have HB1 := Lib.hid (below_on HB0.out hb1)
  clear hb1 HC HB0
  obtain ⟨⟨a0, a1⟩, _⟩ := two_cells K1.out
  go_wp2_with fail
  clear a0 a1
  go_loopg [7, 18] len (fun g m i wr => ∃ k : Nat, k + g = len ∧ i = .int .i64 k ∧ m = .int .i64 (((R.mapIdx (fun i r => atR s x i r)).take k).foldl min 1000000000000) ∧ Hid (Below w1.heap.size w1 wr))
  case atStart => exact ⟨0, by omega, rfl, rfl, Lib.hid (Below.refl _ _)⟩
  case round =>
    obtain ⟨k, hk0, rfl, rfl, HW⟩ := hrel
    have HJ := Lib.hid hk0
    have hk : k ≤ len := by omega
    clear hk0
    by_cases hlt : k < len
    · obtain ⟨r, hr⟩ : ∃ r, R[k]? = some r := ⟨_, List.getElem?_eq_getElem (by rw [HL.out]; exact hlt)⟩
      have hrl := HG.out.len r (List.mem_of_getElem? hr)
      obtain ⟨y, hy⟩ := at_some (x := x) (i := k) HG.out.s1 hrl
      have hN := ask_take (s := s) (x := x) hr
      rw [atR_is hy] at hN
      have HN := Lib.hid hN
      obtain ⟨b1, o1, qa, qn, qc, ha, hbs, c0, hTq, hqn, hqc, hqm⟩ := HTT.out.row HW.out hr
      have hcl := colN_lt (x := x) (i := k) HG.out.s1
      obtain ⟨p, hp⟩ : ∃ p, colN s x k = p := ⟨_, rfl⟩
      have HC2 := fun W => HCl.out k (by omega) W
      rw [hp] at HC2 hcl hy
      have HC2 := Lib.hid HC2
      have hpq : p < qn := by rw [← hqn, hrl]; exact hcl
      obtain ⟨⟨d0, d1⟩, _⟩ := two_cells (kept HW.out K1.out)
      have HTQ := Lib.hid hTq
      have HY := Lib.hid hy
      have hqn32 : qn ≤ 32 := by rw [← hqn, hrl]; exact HG.out.s2
      generalize ((R.mapIdx (fun i r => atR s x i r)).take k).foldl min 1000000000000 = m at *
      subst ha
      clear hr hrl hy hN hTq hqn hp hcl
      go_wp2_with fail
      refine (HC2.out _).mono ?_
      rintro e w5 ⟨rfl, hb5⟩
      obtain ⟨b2, o2, ha2, hbs2, e0⟩ := HTQ.out.one hb5 (map_get HY.out)
      have HW5 := Lib.hid (below_on HW.out hb5)
      subst ha2
      clear hb5 d0 d1 c0
      go_wp2_with fail
      all_goals
        go_roundg (len - (k + 1))
        case measure => have := HJ.out; omega
        case rel => exact ⟨k + 1, by omega, by go_num, by rw [HN.out]; exact congrArg (Value.int .i64) (by omega), HW5⟩
    · obtain rfl : k = len := by omega
      have HBW := Lib.hid (below_on HB1.out HW.out)
      obtain ⟨m, hm⟩ : ∃ m, ((R.mapIdx (fun i r => atR s x i r)).take k).foldl min 1000000000000 = m := ⟨_, rfl⟩
      have HM : Hid (m = z) := Lib.hid (by
        rw [← hm, ← HZ.out, List.take_of_length_le (by rw [List.length_mapIdx, HL.out]; exact Nat.le_refl _)]
        rfl)
      rw [hm]
      clear hm
      go_wp2
      go_ret2
      exact ⟨by rw [HM.out]; rfl, HBW.out⟩
end Go.Proofs.Ytcfejbhoeichnaa
