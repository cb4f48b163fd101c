/- The contracts of the program's alias.isColumn and alias.Check. -/
import Derived.Test.YteddoccgbebbeabPondPut
import Derived.Deep.LoopGhost
import Derived.Deep.DeepCutAuto
import Derived.Deep.RegionWith
namespace Go.Proofs.Yteddoccgbebbeab
open Go.ChangeShapes Go.WideShapes Go.ChangeAt Go.RowKit

def aliasV (A : Int) (a : Option Addr) (la ca : Nat) (b : Option Addr) (lb cb : Nat) : Value := .agg #[.int .i64 A, .slice a la ca, .slice b lb cb]
def aliasNil : Value := .agg #[.int .i64 0, .slice none 0 0, .slice none 0 0]
/-- is each of these columns one of a table of n columns whose parts are A? -/
def colsB (A : Int) (n : Nat) : List Int → List Int → Bool
  | o :: O, r :: R => ((decide (0 ≤ o) && decide (o ≤ A)) && (decide (0 ≤ r) && decide (r < (n : Int)))) && colsB A n O R
  | _, _ => true
/-- what Check answers -/
def aliasE (A : Int) (O R : List Int) : Int :=
  if 40 < O.length ∨ 40 < R.length then 2 else if O.length ≠ R.length ∨ O.length = 0 then 7 else if A < 1 ∨ 40000000000000 < A then 1 else if colsB A O.length O R = true then 0 else 1
theorem colsB_iff {A : Int} {n : Nat} : ∀ (O R : List Int), O.length = R.length → (colsB A n O R = true ↔ ∀ (i : Nat) (o r : Int), O[i]? = some o → R[i]? = some r → (0 ≤ o ∧ o ≤ A) ∧ 0 ≤ r ∧ r < (n : Int))
  | [], [], _ => by simp [colsB]
  | [], r :: R, h => by simp at h
  | o :: O, [], h => by simp at h
  | o :: O, r :: R, h => by
    rw [colsB, Bool.and_eq_true, colsB_iff O R (by simpa using h)]
    simp only [Bool.and_eq_true, decide_eq_true_iff]
    constructor
    · rintro ⟨h1, h2⟩ i x y hx hy
      cases i with
      | zero => simp at hx hy; subst hx hy; exact h1
      | succ i => exact h2 i x y (by simpa using hx) (by simpa using hy)
    · intro h1
      exact ⟨h1 0 o r rfl rfl, fun i x y hx hy => h1 (i + 1) x y (by simpa using hx) (by simpa using hy)⟩
theorem colsB_step {A : Int} {n k : Nat} {O R : List Int} {o r : Int} (ho : O[k]? = some o) (hr : R[k]? = some r) : colsB A n (O.drop k) (R.drop k) = (((decide (0 ≤ o) && decide (o ≤ A)) && (decide (0 ≤ r) && decide (r < (n : Int)))) && colsB A n (O.drop (k + 1)) (R.drop (k + 1))) := by
  obtain ⟨h1, rfl⟩ := List.getElem?_eq_some_iff.1 ho
  obtain ⟨h2, rfl⟩ := List.getElem?_eq_some_iff.1 hr
  rw [List.drop_eq_getElem_cons h1, List.drop_eq_getElem_cons h2, colsB]
theorem alias_cells {w : World} {b : Nat} {A : Int} {u v : Value} {t : TypeId} (h : w.heap[b]? = some (.cells #[.int .i64 A, u, v] t (0, 0))) :
    (w.cell? ⟨b, 0, none⟩ = some (.int .i64 A) ∧ w.cell? ⟨b, 1, none⟩ = some u ∧ w.cell? ⟨b, 2, none⟩ = some v) ∧ w.frozen? ⟨b, 0, none⟩ = false ∧ w.frozen? ⟨b, 1, none⟩ = false ∧ w.frozen? ⟨b, 2, none⟩ = false :=
  ⟨⟨cell_blk h rfl, cell_blk h rfl, cell_blk h rfl⟩, frozen_blk h, frozen_blk h, frozen_blk h⟩
theorem kept_blk {w1 w2 : World} {b : Nat} {o : Obj} (hb : Below w1.heap.size w1 w2) (h : w1.heap[b]? = some o) : w2.heap[b]? = some o :=
  (hb.block b (Array.getElem?_eq_some_iff.1 h).1).trans h
theorem below_drawn {w w' : World} (h : Below w.drew.heap.size w.drew w') : Below w.heap.size w w' := ((Below.refl _ _).drew.trans h)

set_option maxHeartbeats 400000 in
theorem isColumn_any (A : Int) (a b : Option Addr) (la ca lb cb : Nat) (i : Int) (w : World) :
    Calls Try.prog 34 #[aliasV A a la ca b lb cb, .int .i64 i] w fun e w' => e = .returned (.bool (decide (0 ≤ i) && decide (i < (la : Int)))) ∧ Below w.heap.size w w' := by
  unfold aliasV
  have hb : Below w.heap.size w (w.alloc (.cells #[.int .i64 A, .slice a la ca, .slice b lb cb] 27)) := (Below.refl _ _).alloc (Nat.le_refl _) _
  have HB := Lib.hid hb
  clear hb
  by_cases h : 0 ≤ i
  · have h' : decide (0 ≤ i) = true := by simpa using h
    go_enter Try.func34, Try.ntmps34
    go_wp2
    go_ret
    exact ⟨by rw [h', Bool.true_and]; rfl, HB.out⟩
  · have h' : decide (0 ≤ i) = false := by simpa using h
    go_enter Try.func34, Try.ntmps34
    go_wp2
    go_ret
    exact ⟨rfl, HB.out⟩

set_option maxRecDepth 100000 in
set_option maxHeartbeats 2000000 in
theorem aliasCheck_any (A : Int) (a b : Option Addr) (la ca lb cb : Nat) (O R : List Int) (w : World) (h1 : Tab w a la ca 1 (O.map iC)) (h2 : Tab w b lb cb 1 (R.map iC)) :
    Calls Try.prog 33 #[aliasV A a la ca b lb cb] w fun e w' => e = .returned (.int .i64 (aliasE A O R)) ∧ Below w.heap.size w w' := by
  have l1 := h1.hlen
  have l2 := h2.hlen
  have m1 := h1.hmax
  have e1 := h1.hle
  have m2 := h2.hmax
  have e2 := h2.hle
  rw [List.length_map] at l1 l2
  unfold maxLen at m1 m2
  have hb : Below w.heap.size w (w.alloc (.cells #[.int .i64 A, .slice a la ca, .slice b lb cb] 27)) := (Below.refl _ _).alloc (Nat.le_refl _) _
  have HB := Lib.hid hb
  have H1 := Lib.hid h1
  have H2 := Lib.hid h2
  have L1 := Lib.hid l1
  have L2 := Lib.hid l2
  have HX : Hid ((w.alloc (.cells #[.int .i64 A, .slice a la ca, .slice b lb cb] 27)).heap[w.heap.size]? = some (.cells #[.int .i64 A, .slice a la ca, .slice b lb cb] 27 (0, 0))) := Lib.hid (MapKept.heap_alloc w _).1
  have HI := Lib.hid (fun i W => isColumn_any A a b la ca lb cb i W)
  unfold aliasE
  unfold aliasV at HI ⊢
  rw [l1, l2]
  clear h1 h2 l1 l2 hb
  by_cases c1 : 40 < la
  · rw [if_pos (Or.inl c1)]
    go_enter Try.func33, Try.ntmps33
    go_wp2
    go_ret
    exact ⟨rfl, HB.out⟩
  have c1' : la ≤ 40 := by omega
  by_cases c2 : 40 < lb
  · rw [if_pos (Or.inr c2)]
    clear c1
    go_enter Try.func33, Try.ntmps33
    go_wp2
    go_ret
    exact ⟨rfl, HB.out⟩
  have c2' : lb ≤ 40 := by omega
  rw [if_neg (show ¬(40 < la ∨ 40 < lb) by omega)]
  clear c1 c2
  by_cases c3 : la = lb
  case neg =>
    rw [if_pos (Or.inl c3)]
    have t : ((la : Int) != (lb : Int)) = true := by rw [bne_iff_ne]; omega
    clear c3
    go_enter Try.func33, Try.ntmps33
    go_wp2
    go_ret
    exact ⟨rfl, HB.out⟩
  subst c3
  have t0 : ((la : Int) != (la : Int)) = false := by simp
  by_cases c4 : la = 0
  · rw [if_pos (Or.inr c4)]
    subst c4
    clear t0
    go_enter Try.func33, Try.ntmps33
    go_wp2
    go_ret
    exact ⟨rfl, HB.out⟩
  rw [if_neg (show ¬(la ≠ la ∨ la = 0) by omega)]
  have t1 : ((la : Int) == 0) = false := by rw [beq_eq_false_iff_ne]; omega
  clear c4
  by_cases c5 : A < 1
  · rw [if_pos (Or.inl c5)]
    go_enter Try.func33, Try.ntmps33
    go_wp2
    go_ret
    exact ⟨rfl, HB.out⟩
  have c5' : 1 ≤ A := by omega
  clear c5
  by_cases c6 : 40000000000000 < A
  · rw [if_pos (Or.inr c6)]
    go_enter Try.func33, Try.ntmps33
    go_wp2
    go_ret
    exact ⟨rfl, HB.out⟩
  rw [if_neg (show ¬(A < 1 ∨ 40000000000000 < A) by omega)]
  have c6' : A ≤ 40000000000000 := by omega
  clear c6
  obtain ⟨B, hB⟩ : ∃ B, colsB A la O R = B := ⟨_, rfl⟩
  rw [hB]
  have HB0 : Hid (colsB A la (O.drop 0) (R.drop 0) = B) := Lib.hid hB
  clear hB
  go_enter Try.func33, Try.ntmps33
  go_wp2_with fail
  clear t0 t1
  generalize w.alloc (.cells #[.int .i64 A, .slice a la ca, .slice b la cb] 27) = w0 at *
  go_loopg [39] la (fun g i wr => ∃ k : Nat, k + g = la ∧ i = .int .i64 k ∧ Hid (colsB A la (O.drop k) (R.drop k) = B) ∧ Hid (wr.heap[w.heap.size]? = some (.cells #[.int .i64 A, .slice a la ca, .slice b la cb] 27 (0, 0))) ∧ Below w.heap.size w wr)
  case atStart => exact ⟨0, by omega, rfl, HB0, HX, HB.out⟩
  case round =>
    clear HB HB0 HX
    obtain ⟨k, hk0, rfl, HB, HX, hb⟩ := hrel
    have HJ := Lib.hid hk0
    have hk : k ≤ la := by omega
    clear hk0
    obtain ⟨⟨x0, x1, x2⟩, _, _, _⟩ := alias_cells HX.out
    by_cases hlt : k < la
    · obtain ⟨o, ho⟩ : ∃ z, O[k]? = some z := ⟨_, List.getElem?_eq_getElem (by rw [L1.out]; exact hlt)⟩
      obtain ⟨r, hr⟩ : ∃ z, R[k]? = some z := ⟨_, List.getElem?_eq_getElem (by rw [L2.out]; exact hlt)⟩
      obtain ⟨b1, o1, ha1, hbs1, q1⟩ := H1.out.one hb (map_get ho)
      obtain ⟨b2, o2, ha2, hbs2, q2⟩ := H2.out.one hb (map_get hr)
      have HZ := Lib.hid (colsB_step (A := A) (n := la) ho hr)
      subst ha1 ha2
      clear ho hr
      have HI2 := Lib.hid (fun W => HI.out r W)
      obtain ⟨C, hC⟩ : ∃ C, (decide (0 ≤ r) && decide (r < (la : Int))) = C := ⟨_, rfl⟩
      rw [hC] at HI2 HZ
      clear hC HI
      by_cases g1 : o < 0
      · have g1' : decide (0 ≤ o) = false := by simp; omega
        rw [g1', HB.out] at HZ
        obtain rfl : B = false := HZ.out.trans (by simp)
        clear g1'
        go_upto_region 10 with fail
        go_cut [61] (fun s wx => s = .bool true ∧ Below w.heap.size w wx)
        case first =>
          go_region
          all_goals
            go_wp2_with fail
            go_meet
            case rel => exact ⟨rfl, by first | exact hb | exact hb.drew⟩
        case rest =>
          obtain ⟨rfl, hb'⟩ := hcut
          go_wp2
          go_ret
          exact ⟨rfl, hb'⟩
      have g1d : decide (o < 0) = false := by simp; omega
      have g1' : 0 ≤ o := by omega
      clear g1
      by_cases g2 : A < o
      · have g2' : decide (o ≤ A) = false := by simp; omega
        rw [g2', HB.out, Bool.and_false] at HZ
        obtain rfl : B = false := HZ.out.trans (by simp)
        clear g2'
        go_upto_region 10 with fail
        go_cut [61] (fun s wx => s = .bool true ∧ Below w.heap.size w wx)
        case first =>
          go_region
          all_goals
            go_wp2_with fail
            go_meet
            case rel => exact ⟨rfl, by first | exact hb | exact hb.drew⟩
        case rest =>
          obtain ⟨rfl, hb'⟩ := hcut
          go_wp2
          go_ret
          exact ⟨rfl, hb'⟩
      have g2d : decide (A < o) = false := by simp; omega
      have g2' : o ≤ A := by omega
      rw [show decide (0 ≤ o) = true from decide_eq_true g1', show decide (o ≤ A) = true from decide_eq_true g2', HB.out, Bool.true_and, Bool.true_and] at HZ
      clear g2
      go_upto_region 10 with fail
      go_cut [61] (fun s wx => s = .bool (!C) ∧ Hid (wx.heap[w.heap.size]? = some (.cells #[.int .i64 A, .slice (some ⟨b1, o1, none⟩) la ca, .slice (some ⟨b2, o2, none⟩) la cb] 27 (0, 0))) ∧ Below w.heap.size w wx)
      case first =>
        go_region_with (first | (go_at_call 34; refine Calls.mono (HI2.out _) ?_; rintro e w5 ⟨rfl, hb5⟩))
        all_goals
          go_wp2_with fail
          go_meet
          case rel => exact ⟨rfl, Lib.hid (kept_blk hb5 HX.out), below_on hb (below_drawn hb5)⟩
      case rest =>
        obtain ⟨rfl, HX', hb'⟩ := hcut
        cases C
        · obtain rfl : B = false := HZ.out.trans (by simp)
          go_wp2
          go_ret
          exact ⟨rfl, hb'⟩
        · rw [Bool.true_and] at HZ
          go_wp2_with fail
          go_roundg (la - (k + 1))
          case measure => have := HJ.out; omega
          case rel => exact ⟨k + 1, by omega, by go_num, Lib.hid HZ.out.symm, HX', hb'⟩
    · obtain rfl : k = la := by omega
      obtain rfl : B = true := by
        rw [← HB.out, List.drop_of_length_le (by rw [L1.out]; omega)]; rfl
      go_wp2
      go_ret
      exact ⟨rfl, hb⟩
end Go.Proofs.Yteddoccgbebbeab
