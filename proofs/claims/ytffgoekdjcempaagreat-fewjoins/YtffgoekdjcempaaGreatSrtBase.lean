/- What sort.Sort asks of an interface value, whatever it is: a row told by an array; and sort.insertionSort, sort.siftDown, sort.reverseRange over it. -/
import Derived.Test.YtffgoekdjcempaaGreatBase
import Derived.Sort.Defs
import Derived.WalkKit
import Derived.Shelf.Abstract
import Derived.Deep.LoopGhost
namespace Go.Proofs.YtffgoekdjcempaaGreat
open Go.ChangeShapes Go.WideShapes Go.ChangeAt Go.RowKit

/-- S W d: in the world W the value's row holds d; what lies below 'base' and is not the row is never turned -/
structure Srt (S : World → Array Int → Prop) (base : Nat) (T : TypeId) (rv : Value) (lt : Int → Int → Bool) (n : Nat) : Prop where
  size : ∀ {W d}, S W d → d.size = n
  base_le : ∀ {W d}, S W d → base ≤ W.heap.size
  below : ∀ {W W' d}, S W d → Below base W W' → S W' d
  most : n ≤ 49
  less : ∀ {W d} (i j : Nat), S W d → i < n → j < n → ∃ f r, Sem.run Tryz.prog (method 252 T rv "Less") W = .ok (f, r) W ∧ (∀ args w, (callFunc f args).run Tryz.prog w = .ok (.enter f args) w) ∧
    Calls Tryz.prog f #[r, .int .i64 i, .int .i64 j] W fun e w' => e = .returned (.bool (lt d[i]! d[j]!)) ∧ Below W.heap.size W w'
  swap : ∀ {W d} (i j : Nat), S W d → i < n → j < n → ∃ f r, Sem.run Tryz.prog (method 252 T rv "Swap") W = .ok (f, r) W ∧ (∀ args w, (callFunc f args).run Tryz.prog w = .ok (.enter f args) w) ∧
    Calls Tryz.prog f #[r, .int .i64 i, .int .i64 j] W fun e w' => e = .returned (.tuple #[]) ∧ S w' (Sort.swp d i j) ∧ ∀ b, base ≤ b → b < W.heap.size → w'.heap[b]? = W.heap[b]?
theorem Srt.on {S : World → Array Int → Prop} {base : Nat} {T : TypeId} {rv : Value} {lt : Int → Int → Bool} {n : Nat} (h : Srt S base T rv lt n) {W W' : World} {d : Array Int} (hS : S W d) (hb : Below W.heap.size W W') : S W' d := h.below hS (hb.mono (h.base_le hS))
theorem Srt.drew {S : World → Array Int → Prop} {base : Nat} {T : TypeId} {rv : Value} {lt : Int → Int → Bool} {n : Nat} (h : Srt S base T rv lt n) {W : World} {d : Array Int} (hS : S W d) (q : Nat) : S (W.drewN q) d := h.on hS (below_drewN (Below.refl _ _) q)

theorem ins_stop (lt : Int → Int → Bool) (a : Nat) (d : Array Int) : Sort.insInner lt a a d = d := by
  cases a with
  | zero => rfl
  | succ a => rw [Sort.insInner, decide_eq_false (by omega), Bool.false_and, if_neg (by decide)]
theorem ins_end (lt : Int → Int → Bool) {a b i : Nat} (d : Array Int) (h : ¬ i < b) : Sort.insOuter lt a b i d = d := by rw [Sort.insOuter.eq_def, if_neg h]

variable {S : World → Array Int → Prop} {base : Nat} {T : TypeId} {rv : Value} {lt : Int → Int → Bool} {n : Nat}

set_option maxRecDepth 100000 in
set_option maxHeartbeats 2000000 in
theorem insertionSort_s (H : Srt S base T rv lt n) (a b : Nat) (d : Array Int) (w : World) (hS : S w d) (hab : a ≤ b) (hb : b ≤ n) :
    Calls Tryz.prog 70 #[.iface T rv, .int .i64 a, .int .i64 b] w fun e w' => e = .returned (.tuple #[]) ∧ S w' (Sort.insertionSort lt d a b) := by
  have hm := H.most
  have HS0 := Lib.hid hS
  have HH := Lib.hid H
  clear H hS
  unfold Sort.insertionSort
  obtain ⟨D, hD⟩ : ∃ D, Sort.insOuter lt a b (a + 1) d = D := ⟨_, rfl⟩
  rw [hD]
  have HD0 := Lib.hid hD
  clear hD
  go_enter Tryz.func70, Tryz.ntmps70
  go_wp2
  go_loopg [6] (b + 1 - (a + 1)) (fun g x wr => ∃ (i : Nat) (dk : Array Int), x = .int .i64 i ∧ i + g = b + 1 ∧ a < i ∧ Hid (Sort.insOuter lt a b i dk = D) ∧ Hid (S wr dk))
  case atStart => exact ⟨a + 1, d, by go_num, by omega, by omega, HD0, HS0⟩
  case round =>
    clear HD0 HS0
    obtain ⟨i, dk, rfl, hig, hai, HD, HS⟩ := hrel
    by_cases hib : i < b
    · have HDI := Lib.hid (show Sort.insOuter lt a b (i + 1) (Sort.insInner lt a i dk) = D from by rw [← HD.out, Sort.insOuter.eq_def lt a b i dk, if_pos hib])
      clear HD
      obtain ⟨E, hE⟩ : ∃ E, Sort.insInner lt a i dk = E := ⟨_, rfl⟩
      rw [hE] at HDI
      have HE0 := Lib.hid hE
      clear hE
      go_wp2
      go_loopg [7] i (fun h x wr => ∃ (dj : Array Int), x = .int .i64 h ∧ a ≤ h ∧ h ≤ i ∧ Hid (Sort.insInner lt a h dj = E) ∧ Hid (S wr dj))
      case atStart => exact ⟨dk, rfl, by omega, Nat.le_refl _, HE0, HS⟩
      case round =>
        clear HE0 HS
        obtain ⟨dj, rfl, haj, hji, HE, HS⟩ := hrel
        by_cases hja : a < gk
        · obtain ⟨j, rfl⟩ : ∃ j, gk = j + 1 := ⟨gk - 1, by omega⟩
          obtain ⟨f, r, mL, eL, cL⟩ := HH.out.less (j + 1) j HS.out (by omega) (by omega)
          have CL := Lib.hid cL
          have hgt : decide (((j + 1 : Nat) : Int) > (a : Int)) = true := by rw [decide_eq_true_iff]; omega
          have HI := HE.out
          rw [Sort.insInner, show decide (j + 1 > a) = true from decide_eq_true (by omega), Bool.true_and] at HI
          replace HI := Lib.hid HI
          generalize lt dj[j + 1]! dj[j]! = t at *
          clear cL HE
          cases t
          · rw [if_neg (by decide)] at HI
            obtain rfl : dj = E := HI.out
            go_wp2_with (go_at_fn f; refine CL.out.mono ?_; rintro e w1 ⟨rfl, hb1⟩; have HS1 := Lib.hid (HH.out.on HS.out hb1); clear hb1)
            go_roundg (b + 1 - (i + 1))
            case measure => omega
            case rel => exact ⟨i + 1, dj, by go_num, by omega, by omega, HDI, HS1⟩
          · rw [if_pos rfl] at HI
            go_wp2_with (first
              | (go_at_fn f; refine CL.out.mono ?_; rintro e w1 ⟨rfl, hb1⟩; have HS1 := Lib.hid (HH.out.on HS.out hb1); obtain ⟨f2, r2, mS, eS, cS⟩ := HH.out.swap (j + 1) j HS1.out (by omega) (by omega); have CS := Lib.hid cS; clear hb1 cS)
              | (go_at_fn f2; refine CS.out.mono ?_; rintro e w2 ⟨rfl, hs2, _⟩; have HS2 := Lib.hid hs2; clear hs2))
            go_roundg j
            case measure => omega
            case rel => exact ⟨_, by go_num, by omega, by omega, HI, HS2⟩
        · obtain rfl : gk = a := by omega
          rw [ins_stop] at HE
          obtain rfl : dj = E := HE.out
          go_wp2
          go_roundg (b + 1 - (i + 1))
          case measure => omega
          case rel => exact ⟨i + 1, dj, by go_num, by omega, by omega, HDI, HS⟩
    · rw [ins_end lt dk hib] at HD
      obtain rfl : dk = D := HD.out
      go_wp2
      go_end0
      exact ⟨rfl, HS.out⟩
end Go.Proofs.YtffgoekdjcempaaGreat
