/- Slices that are written out, as rows. For every program. -/
import Derived.Test.YtffgoekdjcempaaGreatGr3
namespace Go.Proofs.YtffgoekdjcempaaGreat
open Go.RowKit

theorem tab_lit (w : World) (t : TypeId) (k n : Nat) (R : List (List Value)) (cs : Array Value) (hc : cs.toList = R.flatten) (hn : R.length = n) (hk : ∀ r ∈ R, r.length = k) (hm : n ≤ maxLen) (b : Nat) (hb : b = w.heap.size) :
    Tab (w.alloc (.cells cs t)) (some ⟨b, 0, none⟩) n n k R := by
  subst hb
  refine ⟨hn, Nat.le_refl _, hm, (fun h => by cases h), fun _ => ⟨w.heap.size, 0, rfl, by simp, ?_⟩⟩
  intro i r hr j u hu
  rw [World.cell?_alloc_at _ _ _ _ rfl]
  show cs[0 + (i * k + j)]? = some u
  rw [Nat.zero_add, ← Array.getElem?_toList, hc]
  exact flatten_get hk hr hu

end Go.Proofs.YtffgoekdjcempaaGreat
