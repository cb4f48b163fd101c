/- The contract of the program's alias.Pick. -/
import Derived.Test.YteddoccgbebbeabAliasCheck
namespace Go.Proofs.Yteddoccgbebbeab
open Go.ChangeShapes Go.WideShapes Go.ChangeAt Go.RowKit

def pickP (A : Int) (O R : List Int) (c p : Int) : Int × Int :=
  if aliasE A O R ≠ 0 then (0, aliasE A O R) else if (c < 0 ∨ (O.length : Int) ≤ c) ∨ p < 0 ∨ A ≤ p then (0, 1) else (if p < O.getD c.toNat 0 then c else R.getD c.toNat 0, 0)
theorem aliasE_zero {A : Int} {O R : List Int} (h : aliasE A O R = 0) : O.length ≤ 40 ∧ R.length = O.length ∧ O.length ≠ 0 ∧ 1 ≤ A ∧ A ≤ 40000000000000 ∧ ∀ (i : Nat) (o r : Int), O[i]? = some o → R[i]? = some r → (0 ≤ o ∧ o ≤ A) ∧ 0 ≤ r ∧ r < (O.length : Int) := by
  unfold aliasE at h
  split at h
  · cases h
  rename_i h1
  split at h
  · cases h
  rename_i h2
  split at h
  · cases h
  rename_i h3
  split at h
  · rename_i h4
    exact ⟨by omega, by omega, by omega, by omega, by omega, (colsB_iff O R (by omega)).1 h4⟩
  · cases h

set_option maxRecDepth 100000 in
set_option maxHeartbeats 2000000 in
theorem pick_any (A : Int) (a b : Option Addr) (la ca lb cb : Nat) (O R : List Int) (c p : Int) (w : World) (h1 : Tab w a la ca 1 (O.map iC)) (h2 : Tab w b lb cb 1 (R.map iC)) :
    Calls Try.prog 12 #[aliasV A a la ca b lb cb, .int .i64 c, .int .i64 p] w fun e w' => e = .returned (.tuple #[.int .i64 (pickP A O R c p).1, .int .i64 (pickP A O R c p).2]) ∧ Below w.heap.size w w' := by
  have l1 := h1.hlen
  have l2 := h2.hlen
  rw [List.length_map] at l1 l2
  have hb : Below w.heap.size w (w.alloc (.cells #[.int .i64 A, .slice a la ca, .slice b lb cb] 27)) := (Below.refl _ _).alloc (Nat.le_refl _) _
  have HB := Lib.hid hb
  have HX : Hid ((w.alloc (.cells #[.int .i64 A, .slice a la ca, .slice b lb cb] 27)).heap[w.heap.size]? = some (.cells #[.int .i64 A, .slice a la ca, .slice b lb cb] 27 (0, 0))) := Lib.hid (MapKept.heap_alloc w _).1
  have HC := Lib.hid (aliasCheck_any A a b la ca lb cb O R _ (h1.below hb) (h2.below hb))
  have H1 := Lib.hid h1
  have H2 := Lib.hid h2
  have L1 := Lib.hid l1
  have L2 := Lib.hid l2
  unfold aliasV at HC ⊢
  clear h1 h2 hb
  by_cases hE : aliasE A O R = 0
  case neg =>
    rw [show pickP A O R c p = (0, aliasE A O R) from if_pos hE]
    have t : (aliasE A O R != 0) = true := by simpa using hE
    generalize aliasE A O R = E at *
    clear hE
    go_enter Try.func12, Try.ntmps12
    go_wp2_with fail
    refine HC.out.mono ?_
    rintro e w1 ⟨rfl, hb1⟩
    go_wp2
    go_ret2
    exact ⟨rfl, below_on HB.out hb1⟩
  obtain ⟨z1, z2, z3, z4, z5, z6⟩ := aliasE_zero hE
  have hlb : lb = la := by omega
  subst hlb
  have hla : lb ≤ 40 := by omega
  have HI := Lib.hid (fun W => isColumn_any A a b lb ca lb cb c W)
  unfold aliasV at HI
  rw [hE] at HC
  have EP : pickP A O R c p = if (c < 0 ∨ (lb : Int) ≤ c) ∨ p < 0 ∨ A ≤ p then (0, 1) else (if p < O.getD c.toNat 0 then c else R.getD c.toNat 0, 0) := by
    unfold pickP
    rw [if_neg (fun h => h hE), l1]
  clear hE z1 z2 z3 z6 l1 l2
  by_cases g1 : c < 0 ∨ (lb : Int) ≤ c
  · rw [EP, if_pos (Or.inl g1)]
    have hx : (decide (0 ≤ c) && decide (c < (lb : Int))) = false := by
      rw [Bool.and_eq_false_iff, decide_eq_false_iff_not, decide_eq_false_iff_not]; omega
    rw [hx] at HI
    clear hx g1 EP
    go_enter Try.func12, Try.ntmps12
    go_wp2_with fail
    refine HC.out.mono ?_
    rintro e w1 ⟨rfl, hb1⟩
    obtain ⟨⟨x0, x1, x2⟩, _, _, _⟩ := alias_cells (kept_blk hb1 HX.out)
    go_wp2_with fail
    refine (HI.out _).mono ?_
    rintro e w2 ⟨rfl, hb2⟩
    go_wp2
    go_ret2
    exact ⟨rfl, below_on (below_on HB.out hb1) hb2⟩
  have hx : (decide (0 ≤ c) && decide (c < (lb : Int))) = true := by
    rw [Bool.and_eq_true, decide_eq_true_iff, decide_eq_true_iff]; omega
  rw [hx] at HI
  by_cases g2 : p < 0
  · rw [EP, if_pos (Or.inr (Or.inl g2))]
    clear hx g1 EP
    go_enter Try.func12, Try.ntmps12
    go_wp2_with fail
    refine HC.out.mono ?_
    rintro e w1 ⟨rfl, hb1⟩
    obtain ⟨⟨x0, x1, x2⟩, _, _, _⟩ := alias_cells (kept_blk hb1 HX.out)
    go_wp2_with fail
    refine (HI.out _).mono ?_
    rintro e w2 ⟨rfl, hb2⟩
    go_wp2
    go_ret2
    exact ⟨rfl, below_on (below_on HB.out hb1) hb2⟩
  by_cases g3 : A ≤ p
  · rw [EP, if_pos (Or.inr (Or.inr g3))]
    have g2' : 0 ≤ p := by omega
    clear hx g1 EP g2
    go_enter Try.func12, Try.ntmps12
    go_wp2_with fail
    refine HC.out.mono ?_
    rintro e w1 ⟨rfl, hb1⟩
    obtain ⟨⟨x0, x1, x2⟩, _, _, _⟩ := alias_cells (kept_blk hb1 HX.out)
    go_wp2_with fail
    refine (HI.out _).mono ?_
    rintro e w2 ⟨rfl, hb2⟩
    obtain ⟨⟨y0, y1, y2⟩, _, _, _⟩ := alias_cells (kept_blk hb2 (kept_blk hb1 HX.out))
    go_wp2
    go_ret2
    exact ⟨rfl, below_on (below_on HB.out hb1) hb2⟩
  obtain ⟨j, rfl⟩ := Int.eq_ofNat_of_zero_le (show 0 ≤ c by omega)
  have hj : j < lb := by omega
  obtain ⟨o, ho⟩ : ∃ z, O[j]? = some z := ⟨_, List.getElem?_eq_getElem (by rw [L1.out]; exact hj)⟩
  obtain ⟨r, hr⟩ : ∃ z, R[j]? = some z := ⟨_, List.getElem?_eq_getElem (by rw [L2.out]; exact hj)⟩
  have EP2 : pickP A O R j p = (if p < o then (j : Int) else r, 0) := by
    rw [EP, if_neg (by omega), Int.toNat_natCast, List.getD_eq_getElem?_getD, List.getD_eq_getElem?_getD, ho, hr]; rfl
  rw [EP2]
  have HO := Lib.hid (map_get (f := iC) ho)
  have HR := Lib.hid (map_get (f := iC) hr)
  have g2' : 0 ≤ p := by omega
  have g3' : p < A := by omega
  clear hx g1 g2 g3 EP EP2 ho hr
  by_cases g4 : p < o
  · rw [if_pos g4]
    go_enter Try.func12, Try.ntmps12
    go_wp2_with fail
    refine HC.out.mono ?_
    rintro e w1 ⟨rfl, hb1⟩
    obtain ⟨⟨x0, x1, x2⟩, _, _, _⟩ := alias_cells (kept_blk hb1 HX.out)
    go_wp2_with fail
    refine (HI.out _).mono ?_
    rintro e w2 ⟨rfl, hb2⟩
    obtain ⟨⟨y0, y1, y2⟩, _, _, _⟩ := alias_cells (kept_blk hb2 (kept_blk hb1 HX.out))
    have HB2 := Lib.hid (below_on (below_on HB.out hb1) hb2)
    obtain ⟨b1, o1, ha1, hbs1, q1⟩ := H1.out.one HB2.out HO.out
    subst ha1
    clear hb1 hb2 x0 x1 x2
    go_wp2
    go_ret2
    exact ⟨rfl, HB2.out⟩
  · rw [if_neg g4]
    have g4' : o ≤ p := by omega
    clear g4
    go_enter Try.func12, Try.ntmps12
    go_wp2_with fail
    refine HC.out.mono ?_
    rintro e w1 ⟨rfl, hb1⟩
    obtain ⟨⟨x0, x1, x2⟩, _, _, _⟩ := alias_cells (kept_blk hb1 HX.out)
    go_wp2_with fail
    refine (HI.out _).mono ?_
    rintro e w2 ⟨rfl, hb2⟩
    obtain ⟨⟨y0, y1, y2⟩, _, _, _⟩ := alias_cells (kept_blk hb2 (kept_blk hb1 HX.out))
    have HB2 := Lib.hid (below_on (below_on HB.out hb1) hb2)
    obtain ⟨b1, o1, ha1, hbs1, q1⟩ := H1.out.one HB2.out HO.out
    obtain ⟨b2, o2, ha2, hbs2, q2⟩ := H2.out.one HB2.out HR.out
    subst ha1 ha2
    clear hb1 hb2 x0 x1 x2
    go_wp2
    go_ret2
    exact ⟨rfl, HB2.out⟩
end Go.Proofs.Yteddoccgbebbeab
