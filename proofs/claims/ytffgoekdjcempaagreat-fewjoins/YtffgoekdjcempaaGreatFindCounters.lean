/- The contracts of slices.IndexFunc and slices.ContainsFunc on a slice of api.Counter, for a function with no captured variable, or with one, that answers a test of the element and turns nothing old. -/
import Derived.Test.YtffgoekdjcempaaGreatInfoCounters
import Derived.Test.YtffgoekdjcempaaGreatGr3
import Derived.Deep.LoopGhost
import Derived.WalkKit
namespace Go.Proofs.YtffgoekdjcempaaGreat
open Go.ChangeShapes Go.WideShapes Go.ChangeAt Go.RowKit

namespace FindC
def idxC (p : Int × Int → Bool) (l : List (Int × Int)) : Int := if l.any p then ((l.findIdx p : Nat) : Int) else -1
theorem idxC_here {p : Int × Int → Bool} {l : List (Int × Int)} {k : Nat} {x : Int × Int} (hx : l[k]? = some x) (hp : p x = true) (hn : ∀ j, j < k → ∀ y, l[j]? = some y → p y = false) : idxC p l = (k : Int) := by
  have hk := (List.getElem?_eq_some_iff.1 hx).1
  have hm : x ∈ l := List.mem_of_getElem? hx
  have ha : l.any p = true := List.any_eq_true.2 ⟨x, hm, hp⟩
  have hf : l.findIdx p = k := by
    refine (List.findIdx_eq hk).2 ⟨?_, fun j hj => ?_⟩
    · rw [(List.getElem?_eq_some_iff.1 hx).2]; exact hp
    · have := hn j hj _ (List.getElem?_eq_getElem (by omega))
      simpa using this
  unfold idxC
  rw [if_pos ha, hf]
theorem idxC_none {p : Int × Int → Bool} {l : List (Int × Int)} {k : Nat} (hk : l.length = k) (hn : ∀ j, j < k → ∀ y, l[j]? = some y → p y = false) : idxC p l = -1 ∧ l.any p = false := by
  have ha : l.any p = false := by
    rw [List.any_eq_false]
    intro x hx
    obtain ⟨j, hj⟩ := List.getElem?_of_mem hx
    have := hn j (by have := (List.getElem?_eq_some_iff.1 hj).1; omega) x hj
    simp [this]
  exact ⟨by unfold idxC; rw [ha]; rfl, ha⟩
theorem idxC_le (p : Int × Int → Bool) (l : List (Int × Int)) : decide (0 ≤ idxC p l) = l.any p := by
  unfold idxC
  by_cases h : l.any p = true
  · rw [if_pos h, h]; simp
  · rw [if_neg h]; simp at h ⊢; exact h
end FindC
open FindC

set_option maxRecDepth 100000 in
set_option maxHeartbeats 1000000 in
theorem indexCtr0_any (F : Nat) (p : Int × Int → Bool) (a : Option Addr) (len cap : Nat) (l : List (Int × Int)) (w : World) (h : Tab w a len cap 2 (l.map iiC))
    (hrun : ∀ (k n : Int) (W : World), (callFunc F #[.agg #[.int .i64 k, .int .i64 n]]).run Tryz.prog W = .ok (.enter F #[.agg #[.int .i64 k, .int .i64 n]]) W)
    (hF : ∀ x ∈ l, ∀ W : World, Below w.heap.size w W → Calls Tryz.prog F #[.agg #[.int .i64 x.1, .int .i64 x.2]] W fun e w' => e = .returned (.bool (p x)) ∧ Below W.heap.size W w') :
    Calls Tryz.prog 46 #[.slice a len cap, .func (.func F) #[] #[]] w fun e w' => e = .returned (.int .i64 (idxC p l)) ∧ Below w.heap.size w w' := by
  have hl := h.hlen
  have hm := h.hmax
  have hle := h.hle
  rw [List.length_map] at hl
  unfold maxLen at hm
  have HT := Lib.hid h
  have HL := Lib.hid hl
  have HF := Lib.hid hF
  obtain ⟨r, hr⟩ : ∃ r, idxC p l = r := ⟨_, rfl⟩
  rw [hr]
  have HR := Lib.hid hr
  clear h hl hF hr
  go_enter Tryz.func46, Tryz.ntmps46
  go_wp2_with fail
  go_loopg [8] len (fun g i wr => ∃ k : Nat, k + g = len ∧ i = .int .i64 k ∧ Hid (∀ j, j < k → ∀ y, l[j]? = some y → p y = false) ∧ Hid (Below w.heap.size w wr))
  case atStart => exact ⟨0, by omega, rfl, Lib.hid (fun j hj => by omega), Lib.hid (Below.refl _ _)⟩
  case round =>
    obtain ⟨k, hk0, rfl, HN, HW⟩ := hrel
    have HJ := Lib.hid hk0
    have hk : k ≤ len := by omega
    clear hk0
    by_cases hlt : k < len
    · obtain ⟨⟨kx, nx⟩, hx⟩ : ∃ x, l[k]? = some x := ⟨_, List.getElem?_eq_getElem (by rw [HL.out]; exact hlt)⟩
      obtain ⟨b1, o1, ha, hbs, c0, c1⟩ := HT.out.two HW.out (map_get hx)
      have HX := Lib.hid (HF.out (kx, nx) (List.mem_of_getElem? hx) wr HW.out)
      have HXX := Lib.hid hx
      subst ha
      clear hx HF
      simp only at HX
      by_cases hp : p (kx, nx) = true
      · rw [hp] at HX
        obtain rfl : r = (k : Int) := by rw [← HR.out]; exact idxC_here HXX.out hp HN.out
        clear hp
        go_wp2_with fail
        refine HX.out.mono ?_
        rintro e w1 ⟨rfl, hb⟩
        have HB := Lib.hid (below_on HW.out hb)
        clear hb
        go_wp2
        go_ret
        exact ⟨rfl, HB.out⟩
      · have hp' : p (kx, nx) = false := by simpa using hp
        rw [hp'] at HX
        have HN' : Hid (∀ j, j < k + 1 → ∀ y, l[j]? = some y → p y = false) := Lib.hid (fun j hj y hy => by
          by_cases hjk : j = k
          · subst hjk
            rw [HXX.out, Option.some.injEq] at hy
            rw [← hy]; exact hp'
          · exact HN.out j (by omega) y hy)
        clear hp hp'
        go_wp2_with fail
        refine HX.out.mono ?_
        rintro e w1 ⟨rfl, hb⟩
        have HB := Lib.hid (below_on HW.out hb)
        clear hb
        go_wp2_with fail
        go_roundg (len - (k + 1))
        case measure => have := HJ.out; omega
        case rel => exact ⟨k + 1, by omega, by go_num, HN', HB⟩
    · obtain rfl : k = len := by omega
      obtain rfl : r = -1 := by rw [← HR.out]; exact (idxC_none HL.out HN.out).1
      have HB := HW
      go_wp2
      go_ret
      exact ⟨rfl, HB.out⟩

set_option maxRecDepth 100000 in
set_option maxHeartbeats 1000000 in
theorem containsCtr0_any (F : Nat) (p : Int × Int → Bool) (a : Option Addr) (len cap : Nat) (l : List (Int × Int)) (w : World) (h : Tab w a len cap 2 (l.map iiC))
    (hrun : ∀ (k n : Int) (W : World), (callFunc F #[.agg #[.int .i64 k, .int .i64 n]]).run Tryz.prog W = .ok (.enter F #[.agg #[.int .i64 k, .int .i64 n]]) W)
    (hF : ∀ x ∈ l, ∀ W : World, Below w.heap.size w W → Calls Tryz.prog F #[.agg #[.int .i64 x.1, .int .i64 x.2]] W fun e w' => e = .returned (.bool (p x)) ∧ Below W.heap.size W w') :
    Calls Tryz.prog 36 #[.slice a len cap, .func (.func F) #[] #[]] w fun e w' => e = .returned (.bool (l.any p)) ∧ Below w.heap.size w w' := by
  have HC := Lib.hid (indexCtr0_any F p a len cap l w h hrun hF)
  have HD := Lib.hid (idxC_le p l)
  clear h hF hrun
  generalize idxC p l = i at *
  go_enter Tryz.func36, Tryz.ntmps36
  go_wp2_with fail
  refine HC.out.mono ?_
  rintro e w1 ⟨rfl, hb⟩
  go_wp2
  go_ret
  exact ⟨by rw [← HD.out]; rfl, hb⟩

set_option maxRecDepth 100000 in
set_option maxHeartbeats 1000000 in
theorem indexCtr1_any (F : Nat) (u : Value) (p : Int × Int → Bool) (a : Option Addr) (len cap : Nat) (l : List (Int × Int)) (w : World) (h : Tab w a len cap 2 (l.map iiC))
    (hrun : ∀ (k n : Int) (W : World), (callFunc F #[.agg #[.int .i64 k, .int .i64 n], u]).run Tryz.prog W = .ok (.enter F #[.agg #[.int .i64 k, .int .i64 n], u]) W)
    (hF : ∀ x ∈ l, ∀ W : World, Below w.heap.size w W → Calls Tryz.prog F #[.agg #[.int .i64 x.1, .int .i64 x.2], u] W fun e w' => e = .returned (.bool (p x)) ∧ Below W.heap.size W w') :
    Calls Tryz.prog 46 #[.slice a len cap, .func (.func F) #[] #[u]] w fun e w' => e = .returned (.int .i64 (idxC p l)) ∧ Below w.heap.size w w' := by
  have hl := h.hlen
  have hm := h.hmax
  have hle := h.hle
  rw [List.length_map] at hl
  unfold maxLen at hm
  have HT := Lib.hid h
  have HL := Lib.hid hl
  have HF := Lib.hid hF
  obtain ⟨r, hr⟩ : ∃ r, idxC p l = r := ⟨_, rfl⟩
  rw [hr]
  have HR := Lib.hid hr
  clear h hl hF hr
  go_enter Tryz.func46, Tryz.ntmps46
  go_wp2_with fail
  go_loopg [8] len (fun g i wr => ∃ k : Nat, k + g = len ∧ i = .int .i64 k ∧ Hid (∀ j, j < k → ∀ y, l[j]? = some y → p y = false) ∧ Hid (Below w.heap.size w wr))
  case atStart => exact ⟨0, by omega, rfl, Lib.hid (fun j hj => by omega), Lib.hid (Below.refl _ _)⟩
  case round =>
    obtain ⟨k, hk0, rfl, HN, HW⟩ := hrel
    have HJ := Lib.hid hk0
    have hk : k ≤ len := by omega
    clear hk0
    by_cases hlt : k < len
    · obtain ⟨⟨kx, nx⟩, hx⟩ : ∃ x, l[k]? = some x := ⟨_, List.getElem?_eq_getElem (by rw [HL.out]; exact hlt)⟩
      obtain ⟨b1, o1, ha, hbs, c0, c1⟩ := HT.out.two HW.out (map_get hx)
      have HX := Lib.hid (HF.out (kx, nx) (List.mem_of_getElem? hx) wr HW.out)
      have HXX := Lib.hid hx
      subst ha
      clear hx HF
      simp only at HX
      by_cases hp : p (kx, nx) = true
      · rw [hp] at HX
        obtain rfl : r = (k : Int) := by rw [← HR.out]; exact idxC_here HXX.out hp HN.out
        clear hp
        go_wp2_with fail
        refine HX.out.mono ?_
        rintro e w1 ⟨rfl, hb⟩
        have HB := Lib.hid (below_on HW.out hb)
        clear hb
        go_wp2
        go_ret
        exact ⟨rfl, HB.out⟩
      · have hp' : p (kx, nx) = false := by simpa using hp
        rw [hp'] at HX
        have HN' : Hid (∀ j, j < k + 1 → ∀ y, l[j]? = some y → p y = false) := Lib.hid (fun j hj y hy => by
          by_cases hjk : j = k
          · subst hjk
            rw [HXX.out, Option.some.injEq] at hy
            rw [← hy]; exact hp'
          · exact HN.out j (by omega) y hy)
        clear hp hp'
        go_wp2_with fail
        refine HX.out.mono ?_
        rintro e w1 ⟨rfl, hb⟩
        have HB := Lib.hid (below_on HW.out hb)
        clear hb
        go_wp2_with fail
        go_roundg (len - (k + 1))
        case measure => have := HJ.out; omega
        case rel => exact ⟨k + 1, by omega, by go_num, HN', HB⟩
    · obtain rfl : k = len := by omega
      obtain rfl : r = -1 := by rw [← HR.out]; exact (idxC_none HL.out HN.out).1
      have HB := HW
      go_wp2
      go_ret
      exact ⟨rfl, HB.out⟩

set_option maxRecDepth 100000 in
set_option maxHeartbeats 1000000 in
theorem containsCtr1_any (F : Nat) (u : Value) (p : Int × Int → Bool) (a : Option Addr) (len cap : Nat) (l : List (Int × Int)) (w : World) (h : Tab w a len cap 2 (l.map iiC))
    (hrun : ∀ (k n : Int) (W : World), (callFunc F #[.agg #[.int .i64 k, .int .i64 n], u]).run Tryz.prog W = .ok (.enter F #[.agg #[.int .i64 k, .int .i64 n], u]) W)
    (hF : ∀ x ∈ l, ∀ W : World, Below w.heap.size w W → Calls Tryz.prog F #[.agg #[.int .i64 x.1, .int .i64 x.2], u] W fun e w' => e = .returned (.bool (p x)) ∧ Below W.heap.size W w') :
    Calls Tryz.prog 36 #[.slice a len cap, .func (.func F) #[] #[u]] w fun e w' => e = .returned (.bool (l.any p)) ∧ Below w.heap.size w w' := by
  have HC := Lib.hid (indexCtr1_any F u p a len cap l w h hrun hF)
  have HD := Lib.hid (idxC_le p l)
  clear h hF hrun
  generalize idxC p l = i at *
  go_enter Tryz.func36, Tryz.ntmps36
  go_wp2_with fail
  refine HC.out.mono ?_
  rintro e w1 ⟨rfl, hb⟩
  go_wp2
  go_ret
  exact ⟨by rw [← HD.out]; rfl, hb⟩
end Go.Proofs.YtffgoekdjcempaaGreat
