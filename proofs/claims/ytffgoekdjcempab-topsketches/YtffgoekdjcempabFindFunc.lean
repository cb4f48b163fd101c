/- The contracts of slices.IndexFunc and slices.ContainsFunc on a slice of ints, for a closure with one captured variable that answers a test of the element and turns nothing old. -/
import Derived.Test.YtffgoekdjcempabGr6
import Derived.Deep.LoopGhost
import Derived.WalkKit
namespace Go.Proofs.Ytffgoekdjcempab
open Go.ChangeShapes Go.WideShapes Go.ChangeAt Go.RowKit
namespace Find

def idxF (p : Int → Bool) (l : List Int) : Int := if l.any p then ((l.findIdx p : Nat) : Int) else -1
theorem idxF_here {p : Int → Bool} {l : List Int} {k : Nat} {x : Int} (hx : l[k]? = some x) (hp : p x = true) (hn : ∀ j, j < k → ∀ y, l[j]? = some y → p y = false) : idxF p l = (k : Int) := by
  have hk := (List.getElem?_eq_some_iff.1 hx).1
  have hm : x ∈ l := List.mem_of_getElem? hx
  have ha : l.any p = true := List.any_eq_true.2 ⟨x, hm, hp⟩
  have hf : l.findIdx p = k := by
    refine (List.findIdx_eq hk).2 ⟨?_, fun j hj => ?_⟩
    · rw [(List.getElem?_eq_some_iff.1 hx).2]; exact hp
    · have := hn j hj _ (List.getElem?_eq_getElem (by omega))
      simpa using this
  unfold idxF
  rw [if_pos ha, hf]
theorem idxF_none {p : Int → Bool} {l : List Int} {k : Nat} (hk : l.length = k) (hn : ∀ j, j < k → ∀ y, l[j]? = some y → p y = false) : idxF p l = -1 ∧ l.any p = false := by
  have ha : l.any p = false := by
    rw [List.any_eq_false]
    intro x hx
    obtain ⟨j, hj⟩ := List.getElem?_of_mem hx
    have := hn j (by have := (List.getElem?_eq_some_iff.1 hj).1; omega) x hj
    simp [this]
  exact ⟨by unfold idxF; rw [ha]; rfl, ha⟩
theorem idxF_le (p : Int → Bool) (l : List Int) : decide (0 ≤ idxF p l) = l.any p := by
  unfold idxF
  by_cases h : l.any p = true
  · rw [if_pos h, h]; simp
  · rw [if_neg h]; simp at h ⊢; exact h
end Find
open Find

set_option maxRecDepth 100000 in
set_option maxHeartbeats 1000000 in
theorem indexFunc_any (F : Nat) (q : Option Addr) (p : Int → Bool) (a : Option Addr) (len cap : Nat) (l : List Int) (w : World) (h : Tab w a len cap 1 (l.map iC))
    (hrun : ∀ (x : Int) (W : World), (callFunc F #[.int .i64 x, .pointer q]).run Try.prog W = .ok (.enter F #[.int .i64 x, .pointer q]) W)
    (hF : ∀ x ∈ l, ∀ W : World, Below w.heap.size w W → Calls Try.prog F #[.int .i64 x, .pointer q] W fun e w' => e = .returned (.bool (p x)) ∧ Below W.heap.size W w') :
    Calls Try.prog 90 #[.slice a len cap, .func (.func F) #[] #[.pointer q]] w fun e w' => e = .returned (.int .i64 (idxF p l)) ∧ Below w.heap.size w w' := by
  have hl := h.hlen
  have hm := h.hmax
  have hle := h.hle
  rw [List.length_map] at hl
  unfold maxLen at hm
  have HT := Lib.hid h
  have HL := Lib.hid hl
  have HF := Lib.hid hF
  obtain ⟨r, hr⟩ : ∃ r, idxF p l = r := ⟨_, rfl⟩
  rw [hr]
  have HR := Lib.hid hr
  clear h hl hF hr
  go_enter Try.func90, Try.ntmps90
  go_wp2_with fail
  go_loopg [8] len (fun g i wr => ∃ k : Nat, k + g = len ∧ i = .int .i64 k ∧ Hid (∀ j, j < k → ∀ y, l[j]? = some y → p y = false) ∧ Hid (Below w.heap.size w wr))
  case atStart => exact ⟨0, by omega, rfl, Lib.hid (fun j hj => by omega), Lib.hid (Below.refl _ _)⟩
  case round =>
    obtain ⟨k, hk0, rfl, HN, HW⟩ := hrel
    have HJ := Lib.hid hk0
    have hk : k ≤ len := by omega
    clear hk0
    by_cases hlt : k < len
    · obtain ⟨x, hx⟩ : ∃ x, l[k]? = some x := ⟨_, List.getElem?_eq_getElem (by rw [HL.out]; exact hlt)⟩
      obtain ⟨b1, o1, ha, hbs, c0⟩ := HT.out.one HW.out (map_get hx)
      have HX := Lib.hid (HF.out x (List.mem_of_getElem? hx) wr HW.out)
      have HXX := Lib.hid hx
      subst ha
      clear hx HF
      by_cases hp : p x = true
      · rw [hp] at HX
        obtain rfl : r = (k : Int) := by rw [← HR.out]; exact idxF_here HXX.out hp HN.out
        clear hp
        go_wp2_with fail
        refine HX.out.mono ?_
        rintro e w1 ⟨rfl, hb⟩
        have HB := Lib.hid (below_on HW.out hb)
        clear hb
        go_wp2
        go_ret
        exact ⟨rfl, HB.out⟩
      · have hp' : p x = false := by simpa using hp
        rw [hp'] at HX
        have HN' : Hid (∀ j, j < k + 1 → ∀ y, l[j]? = some y → p y = false) := Lib.hid (fun j hj y hy => by
          by_cases hjk : j = k
          · subst hjk
            rw [HXX.out, Option.some.injEq] at hy
            rw [← hy]; exact hp'
          · exact HN.out j (by omega) y hy)
        clear hp hp'
        go_wp2_with fail
        refine HX.out.mono ?_
        rintro e w1 ⟨rfl, hb⟩
        have HB := Lib.hid (below_on HW.out hb)
        clear hb
        go_wp2_with fail
        go_roundg (len - (k + 1))
        case measure => have := HJ.out; omega
        case rel => exact ⟨k + 1, by omega, by go_num, HN', HB⟩
    · obtain rfl : k = len := by omega
      obtain rfl : r = -1 := by rw [← HR.out]; exact (idxF_none HL.out HN.out).1
      have HB := HW
      go_wp2
      go_ret
      exact ⟨rfl, HB.out⟩

set_option maxRecDepth 100000 in
set_option maxHeartbeats 1000000 in
theorem containsFunc_any (F : Nat) (q : Option Addr) (p : Int → Bool) (a : Option Addr) (len cap : Nat) (l : List Int) (w : World) (h : Tab w a len cap 1 (l.map iC))
    (hrun : ∀ (x : Int) (W : World), (callFunc F #[.int .i64 x, .pointer q]).run Try.prog W = .ok (.enter F #[.int .i64 x, .pointer q]) W)
    (hF : ∀ x ∈ l, ∀ W : World, Below w.heap.size w W → Calls Try.prog F #[.int .i64 x, .pointer q] W fun e w' => e = .returned (.bool (p x)) ∧ Below W.heap.size W w') :
    Calls Try.prog 71 #[.slice a len cap, .func (.func F) #[] #[.pointer q]] w fun e w' => e = .returned (.bool (l.any p)) ∧ Below w.heap.size w w' := by
  have HC := Lib.hid (indexFunc_any F q p a len cap l w h hrun hF)
  have HD := Lib.hid (idxF_le p l)
  clear h hF hrun
  generalize idxF p l = i at *
  go_enter Try.func71, Try.ntmps71
  go_wp2_with fail
  refine HC.out.mono ?_
  rintro e w1 ⟨rfl, hb⟩
  go_wp2
  go_ret
  exact ⟨by rw [← HD.out]; rfl, hb⟩
end Go.Proofs.Ytffgoekdjcempab
