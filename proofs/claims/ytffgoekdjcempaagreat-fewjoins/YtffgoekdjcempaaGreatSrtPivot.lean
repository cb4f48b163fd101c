/- sort.choosePivot and sort.breakPatterns over any value of less than fifty elements that sort.Sort can take. -/
import Derived.Test.YtffgoekdjcempaaGreatSrtPart
namespace Go.Proofs.YtffgoekdjcempaaGreat
open Go.ChangeShapes Go.WideShapes Go.ChangeAt Go.RowKit

def hintN : Sort.Hint → Int
  | .unknown => 0
  | .increasing => 1
  | .decreasing => 2
theorem pivot_few (lt : Int → Int → Bool) (d : Array Int) {a b : Nat} (h1 : 12 < b - a) (h2 : b ≤ 49) :
    Sort.choosePivot lt d a b = ((Sort.median lt d (a + (b - a) / 4 * 1) (a + (b - a) / 4 * 2) (a + (b - a) / 4 * 3) 0).1,
      if (Sort.median lt d (a + (b - a) / 4 * 1) (a + (b - a) / 4 * 2) (a + (b - a) / 4 * 3) 0).2 = 0 then .increasing else if (Sort.median lt d (a + (b - a) / 4 * 1) (a + (b - a) / 4 * 2) (a + (b - a) / 4 * 3) 0).2 = 12 then .decreasing else .unknown) := by
  unfold Sort.choosePivot
  simp only
  rw [if_pos (by omega), if_neg (by omega)]

variable {S : World → Array Int → Prop} {base : Nat} {T : TypeId} {rv : Value} {lt : Int → Int → Bool} {n : Nat}

set_option maxRecDepth 100000 in
set_option maxHeartbeats 4000000 in
theorem choosePivot_s (H : Srt S base T rv lt n) (a b : Nat) (d : Array Int) (w : World) (hS : S w d) (hab : 12 < b - a) (hb : b ≤ n) :
    Calls Tryz.prog 73 #[.iface T rv, .int .i64 a, .int .i64 b] w fun e w' =>
      e = .returned (.tuple #[.int .i64 ((Sort.choosePivot lt d a b).1 : Nat), .int .i64 (hintN (Sort.choosePivot lt d a b).2)]) ∧ S w' d := by
  have hm := H.most
  obtain ⟨⟨p1, p2⟩, hp⟩ : ∃ p, Sort.choosePivot lt d a b = p := ⟨_, rfl⟩
  rw [hp]
  rw [pivot_few lt d hab (by omega)] at hp
  obtain ⟨hp1, hp2⟩ := Prod.mk.inj hp
  clear hp
  have hq : Int.tdiv ((b : Int) - (a : Int)) 4 = (((b - a) / 4 : Nat) : Int) := by rw [Int.tdiv_eq_ediv_of_nonneg (by omega)]; omega
  have hq2 : (b - a) / 4 * 4 ≤ b - a := Nat.div_mul_le_self _ _
  have hbs := H.base_le hS
  have hal : Below base w (w.alloc (.cells #[.int .i64 0] 3)) := (Below.refl _ _).alloc hbs _
  have hx : SwBox base w.heap.size 0 (w.alloc (.cells #[.int .i64 0] 3)) := ⟨hbs, (MapKept.heap_alloc _ _).1⟩
  generalize (b - a) / 4 = q at *
  have cM := median_s H (a + q * 1) (a + q * 2) (a + q * 3) w.heap.size 0 d _ (H.below hS hal) (by omega) (by omega) (by omega) hx (by omega)
  rw [show ((a + q * 1 : Nat) : Int) = (a : Int) + (q : Int) from by omega, show ((a + q * 2 : Nat) : Int) = (a : Int) + (q : Int) * 2 from by omega, show ((a + q * 3 : Nat) : Int) = (a : Int) + (q : Int) * 3 from by omega] at cM
  have CM := Lib.hid cM
  have x1 : (8 : Int) ≤ (b : Int) - (a : Int) := by omega
  have x2 : (b : Int) - (a : Int) < 50 := by omega
  have y1 : a + q * 3 ≤ 49 := by omega
  have y2 : a ≤ 49 := by omega
  have y3 : b ≤ 49 := by omega
  clear cM hab hb hm
  generalize Sort.median lt d (a + q * 1) (a + q * 2) (a + q * 3) 0 = r at *
  subst hp1
  have HV := Lib.hid hp2
  clear H hS hal hx hbs hp2
  go_enter Tryz.func73, Tryz.ntmps73
  go_wp2_with fail
  refine CM.out.mono ?_
  rintro e w1 ⟨rfl, hs1, hB1⟩
  have c0 : w1.cell? ⟨w.heap.size, 0, none⟩ = some (.int .i64 (r.2 : Int)) := cell_blk hB1.2 rfl
  have HS1 := Lib.hid hs1
  clear hs1 hB1 CM hq hq2
  by_cases h0 : r.2 = 0
  · rw [h0] at c0
    obtain rfl : p2 = .increasing := by rw [← HV.out, if_pos h0]
    clear h0 HV
    go_wp2
    go_ret2
    exact ⟨rfl, HS1.out⟩
  by_cases h12 : r.2 = 12
  · rw [h12] at c0
    obtain rfl : p2 = .decreasing := by rw [← HV.out, if_neg h0, if_pos h12]
    clear h12 h0 HV
    go_wp2
    go_ret2
    exact ⟨rfl, HS1.out⟩
  have t1 : (((r.2 : Nat) : Int) == 0) = false := by rw [beq_eq_false_iff_ne]; omega
  have t2 : (((r.2 : Nat) : Int) == 12) = false := by rw [beq_eq_false_iff_ne]; omega
  obtain rfl : p2 = .unknown := by rw [← HV.out, if_neg h0, if_neg h12]
  clear h0 h12 HV
  go_wp2
  go_ret2
  exact ⟨rfl, HS1.out⟩
end Go.Proofs.YtffgoekdjcempaaGreat
