/- The contract of slices.Equal on slices of api.Counter: true just if the two have the same elements; nothing old has turned. -/
import Derived.Test.YtffgoekdjcempaaGreatEqualBase
namespace Go.Proofs.YtffgoekdjcempaaGreat
open Go.ChangeShapes Go.WideShapes Go.ChangeAt Go.RowKit

theorem held_counters : Tryz.prog.stoodInHeld 37 = false := by kernel_rfl
theorem neq_counters (a0 b0 : Int) (a1 b1 : Int) (w : World) (B : Bool) (hB : B = true ↔ ¬ (a0 = b0 ∧ a1 = b1)) : (binOp .neq 37 (.agg #[.int .i64 a0, .int .i64 a1]) (.agg #[.int .i64 b0, .int .i64 b1])).run Tryz.prog w = .ok (.bool B) w := by
  rw [run_neq_struct, run_equalIn_agg w 9999 37 _ _ (by simp [Program.fieldsOf, Tryz.underlying37]) held_counters]
  simp [go_sem, Program.fieldsOf, Tryz.underlying37, Op.eqFields, toList_iff]
  cases B
  · have h : a0 = b0 ∧ a1 = b1 := Classical.byContradiction fun h => by simpa using hB.2 h
    simp [h]
  · have h := hB.1 rfl
    simp only [not_and] at h
    simp
    exact h

set_option maxRecDepth 100000 in
set_option maxHeartbeats 1000000 in
theorem equal_counters (a b : Option Addr) (la ca lb cb : Nat) (l m : List (Int × Int)) (w : World) (h1 : Tab w a la ca 2 (l.map iiC)) (h2 : Tab w b lb cb 2 (m.map iiC)) (c : Bool) (hc : c = true ↔ l = m) :
    Calls Tryz.prog 23 #[.slice a la ca, .slice b lb cb] w fun e w' => e = .returned (.bool c) ∧ Below w.heap.size w w' := by
  have l1 := h1.hlen
  have l2 := h2.hlen
  have m1 := h1.hmax
  have e1 := h1.hle
  rw [List.length_map] at l1 l2
  unfold maxLen at m1
  have H1 := Lib.hid h1
  have H2 := Lib.hid h2
  have L1 := Lib.hid l1
  have L2 := Lib.hid l2
  have HC := Lib.hid hc
  clear h1 h2 hc
  by_cases hl : la = lb
  · subst hl
    have t0 : ((la : Int) != (la : Int)) = false := by simp
    clear l1 l2
    go_enter Tryz.func23, Tryz.ntmps23
    go_wp2
    go_loopw [13] (fun i wr => ∃ k : Nat, k ≤ la ∧ i = .int .i64 k ∧ l.take k = m.take k ∧ Below w.heap.size w wr) (fun i _ => la - (intOf i).toNat)
    case atStart => exact ⟨0, Nat.zero_le _, rfl, rfl, Below.refl _ _⟩
    case round =>
      obtain ⟨k, hk, rfl, ht, hb⟩ := hrel
      have HT := Lib.hid ht
      clear ht
      by_cases hlt : k < la
      · obtain ⟨x, hx⟩ : ∃ x, l[k]? = some x := ⟨_, List.getElem?_eq_getElem (by rw [L1.out]; exact hlt)⟩
        obtain ⟨y, hy⟩ : ∃ y, m[k]? = some y := ⟨_, List.getElem?_eq_getElem (by rw [L2.out]; exact hlt)⟩
        obtain ⟨b1, o1, ha, hbs, c1, d1⟩ := H1.out.two hb (map_get hx)
        obtain ⟨b2, o2, hc, hbt, c2, d2⟩ := H2.out.two hb (map_get hy)
        have HX := Lib.hid hx
        have HY := Lib.hid hy
        clear hx hy
        rw [ha, hc]
        clear ha hc
        by_cases hxy : x = y
        · have hne := fun w => neq_counters x.1 y.1 x.2 y.2 w false (by rw [hxy]; simp)
          have HE := Lib.hid hxy
          clear hxy
          go_wp2
          go_quiet (fail)
          go_wp2
          go_roundw
          case rel => exact ⟨k + 1, by omega, by go_num, take_next HT.out HX.out HY.out HE.out, below_drewN hb _⟩
          case measure => simp [intOf]; omega
        · have hne := fun w => neq_counters x.1 y.1 x.2 y.2 w true ⟨fun _ h => hxy (Prod.ext h.1 h.2), fun _ => rfl⟩
          have HE := Lib.hid hxy
          clear hxy
          go_wp2
          go_quiet (fail)
          go_wp2
          go_ret
          exact ⟨by rw [bool_no HC.out (not_of_at HX.out HY.out HE.out)]; rfl, below_drewN hb _⟩
      · have e : l = m := by
          have := HT.out
          rw [List.take_of_length_le (by rw [L1.out]; omega), List.take_of_length_le (by rw [L2.out]; omega)] at this
          exact this
        have HE := Lib.hid e
        clear e
        go_wp2
        go_ret
        exact ⟨by rw [HC.out.2 HE.out]; rfl, hb⟩
  · have t0 : ((la : Int) != (lb : Int)) = true := by rw [bne_iff_ne]; omega
    have hne : ¬ l = m := by intro e; rw [e] at l1; omega
    have HE := Lib.hid hne
    clear hne l1 l2 hl
    go_enter Tryz.func23, Tryz.ntmps23
    go_wp2
    go_ret
    exact ⟨by rw [bool_no HC.out HE.out]; rfl, Below.refl _ _⟩

end Go.Proofs.YtffgoekdjcempaaGreat
