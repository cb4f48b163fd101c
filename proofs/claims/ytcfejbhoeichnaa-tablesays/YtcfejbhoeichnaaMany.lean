/- Several slices of ints of the call's own that lie apart from each other. For every program. -/
import Derived.Test.YtcfejbhoeichnaaOwnTwo
import Derived.Test.YtcfejbhoeichnaaOwnMore
namespace Go.Proofs.Ytcfejbhoeichnaa
open Go.ChangeShapes Go.WideShapes Go.ChangeAt Go.RowKit

structure Many (w : World) (b : Nat) (e : TypeId) (l : List (Value × List Int)) : Prop where
  own : ∀ p ∈ l, Own w b e 1 p.1 (p.2.map iC)
  apart : l.Pairwise (fun p q => Apart p.1 q.1)
theorem Many.at {w : World} {b : Nat} {e : TypeId} {l : List (Value × List Int)} (h : Many w b e l) {v : Value} {L : List Int} (hm : (v, L) ∈ l) : Own w b e 1 v (L.map iC) := h.own _ hm
theorem Many.alloc {w : World} {b : Nat} {e : TypeId} {l : List (Value × List Int)} (h : Many w b e l) (o : Obj) : Many (w.alloc o) b e l := ⟨fun p hp => (h.own p hp).alloc o, h.apart⟩
theorem Many.drew {w : World} {b : Nat} {e : TypeId} {l : List (Value × List Int)} (h : Many w b e l) : Many w.drew b e l := ⟨fun p hp => (h.own p hp).drew, h.apart⟩
theorem Many.below {w w' : World} {b : Nat} {e : TypeId} {l : List (Value × List Int)} (h : Many w b e l) (hb : Below w.heap.size w w') : Many w' b e l := ⟨fun p hp => (h.own p hp).below hb, h.apart⟩
theorem Many.under {w w' : World} {b : Nat} {e : TypeId} {l : List (Value × List Int)} (h : Many w b e l) {row : Option Nat} (hg : w.grownBy w' row) (hr : ∀ p ∈ l, p.1.ownBlock = none ∨ p.1.ownBlock ≠ row) : Many w' b e l := ⟨fun p hp => (h.own p hp).keptBy hg (hr p hp), h.apart⟩
theorem Many.base {w : World} {b b' : Nat} {e : TypeId} {l : List (Value × List Int)} (h : Many w b e l) (hb : b' ≤ b) : Many w b' e l := ⟨fun p hp => (h.own p hp).base_le hb, h.apart⟩
theorem apart_mid {A B : List (Value × List Int)} {p : Value × List Int} (h : (A ++ p :: B).Pairwise (fun p q => Apart p.1 q.1)) : (∀ q ∈ A, Apart p.1 q.1) ∧ (∀ q ∈ B, Apart p.1 q.1) ∧ (A ++ B).Pairwise (fun p q => Apart p.1 q.1) := by
  rw [List.pairwise_append, List.pairwise_cons] at h
  obtain ⟨h1, ⟨h2, h3⟩, h4⟩ := h
  refine ⟨fun q hq => (h4 q hq p (by simp)).symm, h2, ?_⟩
  rw [List.pairwise_append]
  exact ⟨h1, h3, fun a ha b hb => h4 a ha b (List.mem_cons_of_mem _ hb)⟩
theorem apart_put {A B : List (Value × List Int)} {p : Value × List Int} (h1 : ∀ q ∈ A, Apart p.1 q.1) (h2 : ∀ q ∈ B, Apart p.1 q.1) (h3 : (A ++ B).Pairwise (fun p q => Apart p.1 q.1)) : (A ++ p :: B).Pairwise (fun p q => Apart p.1 q.1) := by
  rw [List.pairwise_append] at h3
  rw [List.pairwise_append, List.pairwise_cons]
  refine ⟨h3.1, ⟨h2, h3.2.1⟩, fun a ha b hb => ?_⟩
  rcases List.mem_cons.1 hb with rfl | hb
  · exact (h1 a ha).symm
  · exact h3.2.2 a ha b hb
theorem mem_parts {A B : List (Value × List Int)} {p q : Value × List Int} (h : q ∈ A ++ p :: B) : q = p ∨ q ∈ A ∨ q ∈ B := by
  rcases List.mem_append.1 h with h | h
  · exact Or.inr (Or.inl h)
  · rcases List.mem_cons.1 h with h | h
    · exact Or.inl h
    · exact Or.inr (Or.inr h)
/-- a store into one of them -/
theorem Many.set {w : World} {b : Nat} {e : TypeId} {A B : List (Value × List Int)} {g n cap : Nat} {L : List Int} (h : Many w b e (A ++ (.slice (some ⟨g, 0, none⟩) n cap, L) :: B)) {i : Nat} {y : Int} (hy : L[i]? = some y) (z : Int) :
    Many (w.setCell ⟨g, i, none⟩ (.int .i64 z)) b e (A ++ (.slice (some ⟨g, 0, none⟩) n cap, L.set i z) :: B) := by
  obtain ⟨a1, a2, a3⟩ := apart_mid h.apart
  refine ⟨fun p hp => ?_, apart_put a1 a2 a3⟩
  rcases mem_parts hp with rfl | hp | hp
  · have := (h.own (.slice (some ⟨g, 0, none⟩) n cap, L) (by simp)).set1 (map_get hy) (.int .i64 z)
    rw [← show iC z = [Value.int .i64 z] from rfl, ← List.map_set] at this
    exact this
  · exact (h.own p (List.mem_append_left _ hp)).beside (a1 p hp) rfl _
  · exact (h.own p (List.mem_append_right _ (List.mem_cons_of_mem _ hp))).beside (a2 p hp) rfl _
/-- behind an append to one of them -/
theorem Many.grow {w w' : World} {b : Nat} {e : TypeId} {A B : List (Value × List Int)} {v v' : Value} {L L' : List Int} (h : Many w b e (A ++ (v, L) :: B)) (hO : Own w' b e 1 v' (L'.map iC)) (hg : w.grownBy w' v.ownBlock) (hv : v'.ownBlock = v.ownBlock ∨ v'.ownBlock = some w.heap.size) :
    Many w' b e (A ++ (v', L') :: B) := by
  obtain ⟨a1, a2, a3⟩ := apart_mid h.apart
  have o1 : ∀ q ∈ A, Own w b e 1 q.1 (q.2.map iC) := fun q hq => h.own q (List.mem_append_left _ hq)
  have o2 : ∀ q ∈ B, Own w b e 1 q.1 (q.2.map iC) := fun q hq => h.own q (List.mem_append_right _ (List.mem_cons_of_mem _ hq))
  refine ⟨fun p hp => ?_, apart_put (fun q hq => (a1 q hq).append (o1 q hq) (Nat.le_refl _) hv) (fun q hq => (a2 q hq).append (o2 q hq) (Nat.le_refl _) hv) a3⟩
  rcases mem_parts hp with rfl | hp | hp
  · exact hO
  · exact (o1 p hp).keptBy hg (a1 p hp).symm.or
  · exact (o2 p hp).keptBy hg (a2 p hp).symm.or
/-- one of them is cut short -/
theorem Own.pop {w : World} {b : Nat} {e : TypeId} {a : Option Addr} {n cap m : Nat} {L : List Int} (h : Own w b e 1 (.slice a n cap) (L.map iC)) (hm : m ≤ n) : Own w b e 1 (.slice a m cap) ((L.take m).map iC) := by
  obtain ⟨⟨hl, hv⟩, hR⟩ := h
  have f1 : ∀ X : List Int, (X.map iC).flatten.length = X.length := fun X => by rw [flat_ints, List.length_map]
  rcases hv with ⟨h0, hn⟩ | ⟨g, cap', cur, h0, hg, hcur, hle, hmx, hsz, htk⟩
  · simp only [Value.slice.injEq] at h0
    obtain ⟨rfl, rfl, rfl⟩ := h0
    obtain rfl : m = 0 := by omega
    exact Own.nil _ _ _ _
  · simp only [Value.slice.injEq] at h0
    obtain ⟨rfl, h0, rfl⟩ := h0
    rw [List.length_map] at h0 hle htk
    have hlen : (L.take m).length = m := by rw [List.length_take]; omega
    refine ⟨⟨?_, Or.inr ⟨g, cap, cur, ?_, hg, hcur, ?_, hmx, hsz, ?_⟩⟩, rows_of iC_len _⟩
    · rw [f1, List.length_map]; omega
    · rw [List.length_map, hlen]
    · rw [List.length_map, hlen]; omega
    · rw [List.length_map, hlen, flat_ints, List.map_take, ← flat_ints, ← htk, List.take_take]
      congr 1; omega
theorem Many.pop {w : World} {b : Nat} {e : TypeId} {A B : List (Value × List Int)} {a : Option Addr} {n cap m : Nat} {L : List Int} (h : Many w b e (A ++ (.slice a n cap, L) :: B)) (hm : m ≤ n) : Many w b e (A ++ (.slice a m cap, L.take m) :: B) := by
  obtain ⟨a1, a2, a3⟩ := apart_mid h.apart
  have eb : (Value.slice a m cap).ownBlock = (Value.slice a n cap).ownBlock := by cases a <;> rfl
  refine ⟨fun p hp => ?_, apart_put (fun q hq g h1 h2 => a1 q hq g (eb ▸ h1) h2) (fun q hq g h1 h2 => a2 q hq g (eb ▸ h1) h2) a3⟩
  rcases mem_parts hp with rfl | hp | hp
  · exact (h.own (.slice a n cap, L) (by simp)).pop hm
  · exact h.own p (List.mem_append_left _ hp)
  · exact h.own p (List.mem_append_right _ (List.mem_cons_of_mem _ hp))
/-- one more, newly made -/
theorem Many.push {w w' : World} {b : Nat} {e : TypeId} {l : List (Value × List Int)} {v : Value} {L : List Int} (h : Many w b e l) (hg : w.grownBy w' none) (hO : Own w' b e 1 v (L.map iC)) (hv : v.ownBlock = none ∨ v.ownBlock = some w.heap.size) : Many w' b e ((v, L) :: l) := by
  refine ⟨fun p hp => ?_, List.pairwise_cons.2 ⟨fun q hq g h1 h2 => ?_, h.apart⟩⟩
  · rcases List.mem_cons.1 hp with rfl | hp
    · exact hO
    · refine (h.own p hp).keptBy hg ?_
      cases hx : p.1.ownBlock with
      | none => exact Or.inl rfl
      | some _ => exact Or.inr (by simp)
  · rcases hv with hv | hv
    · rw [hv] at h1; cases h1
    · rw [hv] at h1
      have := ((h.own q hq).own.lt g h2).2
      simp at h1
      omega
theorem Many.nil (w : World) (b : Nat) (e : TypeId) : Many w b e [] := ⟨fun p hp => by simp at hp, List.Pairwise.nil⟩
end Go.Proofs.Ytcfejbhoeichnaa
