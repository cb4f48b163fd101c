/- Several slices of the call's own that lie apart from each other, of any element. For every program. -/
import Derived.Test.YteddoccgbebbeaaMany
namespace Go.Proofs.Yteddoccgbebbeaa
open Go.ChangeShapes Go.WideShapes Go.ChangeAt Go.RowKit

structure ManyR (w : World) (b : Nat) (e : TypeId) (k : Nat) (l : List (Value × List (List Value))) : Prop where
  own : ∀ p ∈ l, Own w b e k p.1 p.2
  apart : l.Pairwise (fun p q => Apart p.1 q.1)
theorem ManyR.alloc {w : World} {b : Nat} {e : TypeId} {k : Nat} {l : List (Value × List (List Value))} (h : ManyR w b e k l) (o : Obj) : ManyR (w.alloc o) b e k l := ⟨fun p hp => (h.own p hp).alloc o, h.apart⟩
theorem ManyR.below {w w' : World} {b : Nat} {e : TypeId} {k : Nat} {l : List (Value × List (List Value))} (h : ManyR w b e k l) (hb : Below w.heap.size w w') : ManyR w' b e k l := ⟨fun p hp => (h.own p hp).below hb, h.apart⟩
/-- behind an append to one of them -/
theorem ManyR.grow {w w' : World} {b : Nat} {e : TypeId} {k : Nat} {A B : List (Value × List (List Value))} {v v' : Value} {L L' : List (List Value)} (h : ManyR w b e k (A ++ (v, L) :: B)) (hO : Own w' b e k v' L') (hg : w.grownBy w' v.ownBlock) (hv : v'.ownBlock = v.ownBlock ∨ v'.ownBlock = some w.heap.size) :
    ManyR w' b e k (A ++ (v', L') :: B) := by
  have ha := h.apart
  rw [List.pairwise_append, List.pairwise_cons] at ha
  obtain ⟨h1, ⟨h2, h3⟩, h4⟩ := ha
  have a1 : ∀ q ∈ A, Apart v q.1 := fun q hq => (h4 q hq (v, L) (by simp)).symm
  have o1 : ∀ q ∈ A, Own w b e k q.1 q.2 := fun q hq => h.own q (List.mem_append_left _ hq)
  have o2 : ∀ q ∈ B, Own w b e k q.1 q.2 := fun q hq => h.own q (List.mem_append_right _ (List.mem_cons_of_mem _ hq))
  refine ⟨fun p hp => ?_, ?_⟩
  · rcases List.mem_append.1 hp with hp | hp
    · exact (o1 p hp).keptBy hg (a1 p hp).symm.or
    · rcases List.mem_cons.1 hp with rfl | hp
      · exact hO
      · exact (o2 p hp).keptBy hg (h2 p hp : Apart v p.1).symm.or
  · rw [List.pairwise_append, List.pairwise_cons]
    refine ⟨h1, ⟨fun q hq => Apart.append (h2 q hq) (o2 q hq) (Nat.le_refl _) hv, h3⟩, fun p hp q hq => ?_⟩
    rcases List.mem_cons.1 hq with rfl | hq
    · exact (Apart.append (a1 p hp) (o1 p hp) (Nat.le_refl _) hv).symm
    · exact h4 p hp q (List.mem_cons_of_mem _ hq)
end Go.Proofs.Yteddoccgbebbeaa
