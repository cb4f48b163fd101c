/- Small lemmas for the contracts of slices.Equal. -/
import Derived.Test.YtffgoekdjcempaaGreatShapes
import Derived.Deep.QuietTactic
import Derived.BigQuiet
import Derived.Laws.StructEq
import Derived.Lib.Strings
namespace Go.Proofs.YtffgoekdjcempaaGreat
open Go.RowKit

theorem take_next {α : Type} {l m : List α} {k : Nat} {x y : α} (h : l.take k = m.take k) (hx : l[k]? = some x) (hy : m[k]? = some y) (e : x = y) : l.take (k + 1) = m.take (k + 1) := by
  rw [List.take_add_one, List.take_add_one, h, hx, hy, e]
theorem not_of_at {α : Type} {l m : List α} {k : Nat} {x y : α} (hx : l[k]? = some x) (hy : m[k]? = some y) (e : ¬ x = y) : ¬ l = m := by
  intro h
  rw [h, hy] at hx
  exact e (Option.some.inj hx).symm
theorem bool_no {c : Bool} {p : Prop} (h : c = true ↔ p) (hp : ¬ p) : c = false := by
  cases c
  · rfl
  · exact absurd (h.1 rfl) hp
theorem toList_iff (a b : ByteArray) : (a.toList = b.toList) ↔ a = b := by
  constructor
  · intro h
    rw [Lib.toList_data, Lib.toList_data] at h
    apply ByteArray.ext
    exact Array.toList_inj.1 h
  · intro h; rw [h]

end Go.Proofs.YtffgoekdjcempaaGreat
