/- Texts joined: EqualBase, EqualInts, Lit. -/
import Derived.Test.YtffgoekdjcempabGr4
import Derived.Deep.QuietTactic
import Derived.BigQuiet
import Derived.Laws.StructEq
import Derived.Lib.Strings
/- Small lemmas for the contracts of slices.Equal. -/
namespace Go.Proofs.Ytffgoekdjcempab
open Go.RowKit

theorem take_next {α : Type} {l m : List α} {k : Nat} {x y : α} (h : l.take k = m.take k) (hx : l[k]? = some x) (hy : m[k]? = some y) (e : x = y) : l.take (k + 1) = m.take (k + 1) := by
  rw [List.take_add_one, List.take_add_one, h, hx, hy, e]
theorem not_of_at {α : Type} {l m : List α} {k : Nat} {x y : α} (hx : l[k]? = some x) (hy : m[k]? = some y) (e : ¬ x = y) : ¬ l = m := by
  intro h
  rw [h, hy] at hx
  exact e (Option.some.inj hx).symm
theorem bool_no {c : Bool} {p : Prop} (h : c = true ↔ p) (hp : ¬ p) : c = false := by
  cases c
  · rfl
  · exact absurd (h.1 rfl) hp
theorem toList_iff (a b : ByteArray) : (a.toList = b.toList) ↔ a = b := by
  constructor
  · intro h
    rw [Lib.toList_data, Lib.toList_data] at h
    apply ByteArray.ext
    exact Array.toList_inj.1 h
  · intro h; rw [h]

end Go.Proofs.Ytffgoekdjcempab

/- The contract of slices.Equal on slices of int: true just if the two have the same elements; nothing old has turned. -/
namespace Go.Proofs.Ytffgoekdjcempab
open Go.ChangeShapes Go.WideShapes Go.ChangeAt Go.RowKit

set_option maxRecDepth 100000 in
set_option maxHeartbeats 1000000 in
theorem equal_ints (a b : Option Addr) (la ca lb cb : Nat) (l m : List Int) (w : World) (h1 : Tab w a la ca 1 (l.map iC)) (h2 : Tab w b lb cb 1 (m.map iC)) (c : Bool) (hc : c = true ↔ l = m) :
    Calls Try.prog 41 #[.slice a la ca, .slice b lb cb] w fun e w' => e = .returned (.bool c) ∧ Below w.heap.size w w' := by
  have l1 := h1.hlen
  have l2 := h2.hlen
  have m1 := h1.hmax
  have e1 := h1.hle
  rw [List.length_map] at l1 l2
  unfold maxLen at m1
  have H1 := Lib.hid h1
  have H2 := Lib.hid h2
  have L1 := Lib.hid l1
  have L2 := Lib.hid l2
  have HC := Lib.hid hc
  clear h1 h2 hc
  by_cases hl : la = lb
  · subst hl
    have t0 : ((la : Int) != (la : Int)) = false := by simp
    clear l1 l2
    go_enter Try.func41, Try.ntmps41
    go_wp2
    go_loopw [13] (fun i wr => ∃ k : Nat, k ≤ la ∧ i = .int .i64 k ∧ l.take k = m.take k ∧ Below w.heap.size w wr) (fun i _ => la - (intOf i).toNat)
    case atStart => exact ⟨0, Nat.zero_le _, rfl, rfl, Below.refl _ _⟩
    case round =>
      obtain ⟨k, hk, rfl, ht, hb⟩ := hrel
      have HT := Lib.hid ht
      clear ht
      by_cases hlt : k < la
      · obtain ⟨x, hx⟩ : ∃ x, l[k]? = some x := ⟨_, List.getElem?_eq_getElem (by rw [L1.out]; exact hlt)⟩
        obtain ⟨y, hy⟩ : ∃ y, m[k]? = some y := ⟨_, List.getElem?_eq_getElem (by rw [L2.out]; exact hlt)⟩
        obtain ⟨b1, o1, ha, hbs, c1⟩ := H1.out.one hb (map_get hx)
        obtain ⟨b2, o2, hc, hbt, c2⟩ := H2.out.one hb (map_get hy)
        have HX := Lib.hid hx
        have HY := Lib.hid hy
        clear hx hy
        rw [ha, hc]
        clear ha hc
        by_cases hxy : x = y
        · have t1 : ((x : Int) != (y : Int)) = false := by rw [hxy]; simp
          have HE := Lib.hid hxy
          clear hxy
          go_wp2
          go_quiet (fail)
          go_wp2
          go_roundw
          case rel => exact ⟨k + 1, by omega, by go_num, take_next HT.out HX.out HY.out HE.out, below_drewN hb _⟩
          case measure => simp [intOf]; omega
        · have t1 : ((x : Int) != (y : Int)) = true := by rw [bne_iff_ne]; exact hxy
          have HE := Lib.hid hxy
          clear hxy
          go_wp2
          go_quiet (fail)
          go_wp2
          go_ret
          exact ⟨by rw [bool_no HC.out (not_of_at HX.out HY.out HE.out)]; rfl, below_drewN hb _⟩
      · have e : l = m := by
          have := HT.out
          rw [List.take_of_length_le (by rw [L1.out]; omega), List.take_of_length_le (by rw [L2.out]; omega)] at this
          exact this
        have HE := Lib.hid e
        clear e
        go_wp2
        go_ret
        exact ⟨by rw [HC.out.2 HE.out]; rfl, hb⟩
  · have t0 : ((la : Int) != (lb : Int)) = true := by rw [bne_iff_ne]; omega
    have hne : ¬ l = m := by intro e; rw [e] at l1; omega
    have HE := Lib.hid hne
    clear hne l1 l2 hl
    go_enter Try.func41, Try.ntmps41
    go_wp2
    go_ret
    exact ⟨by rw [bool_no HC.out HE.out]; rfl, Below.refl _ _⟩

end Go.Proofs.Ytffgoekdjcempab

/- Slices that are written out, as rows. For every program. -/
namespace Go.Proofs.Ytffgoekdjcempab
open Go.RowKit

theorem tab_lit (w : World) (t : TypeId) (k n : Nat) (R : List (List Value)) (cs : Array Value) (hc : cs.toList = R.flatten) (hn : R.length = n) (hk : ∀ r ∈ R, r.length = k) (hm : n ≤ maxLen) (b : Nat) (hb : b = w.heap.size) :
    Tab (w.alloc (.cells cs t)) (some ⟨b, 0, none⟩) n n k R := by
  subst hb
  refine ⟨hn, Nat.le_refl _, hm, (fun h => by cases h), fun _ => ⟨w.heap.size, 0, rfl, by simp, ?_⟩⟩
  intro i r hr j u hu
  rw [World.cell?_alloc_at _ _ _ _ rfl]
  show cs[0 + (i * k + j)]? = some u
  rw [Nat.zero_add, ← Array.getElem?_toList, hc]
  exact flatten_get hk hr hu

end Go.Proofs.Ytffgoekdjcempab
