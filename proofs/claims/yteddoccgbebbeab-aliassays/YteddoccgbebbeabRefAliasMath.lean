/- The document's own way to the table: its lists of open columns are the stacks of Walker's method, newest first, each column with what it has left. Mathematics alone. -/
import Derived.Test.YteddoccgbebbeabWalkerMath
namespace Go.Proofs.Yteddoccgbebbeab
namespace Walker

/-- a stack, newest first, each column with what it has left -/
def pairs (left : List Int) (l : List Nat) : List (Int × Int) := l.reverse.map (fun c : Nat => ((c : Int), g left c))
theorem pairs_nil (left : List Int) : pairs left [] = [] := rfl
theorem pairs_push (left : List Int) (l : List Nat) (c : Nat) : pairs left (l ++ [c]) = ((c : Int), g left c) :: pairs left l := by
  unfold pairs
  rw [List.reverse_append, List.reverse_cons, List.reverse_nil, List.nil_append, List.singleton_append, List.map_cons]
theorem pairs_len (left : List Int) (l : List Nat) : (pairs left l).length = l.length := by simp [pairs]
theorem pairs_same {left left' : List Int} {l : List Nat} (h : ∀ c ∈ l, g left' c = g left c) : pairs left' l = pairs left l := by
  unfold pairs
  refine List.map_congr_left (fun c hc => ?_)
  rw [h c (List.mem_reverse.1 hc)]
theorem pairs_set {left : List Int} {q : Nat} {x : Int} {l : List Nat} (hq : q ∉ l) (hl : q < left.length) : pairs (left.set q x) l = pairs left l :=
  pairs_same (fun c hc => by rw [g_set hl, if_neg (fun e => hq (by rw [e]; exact hc))])
/-- one step: the giver goes on, or becomes one that wants -/
theorem pairs_next {l : List Int} {A : Int} {s : St} {c q : Nat} {lw hg : List Nat} (h : Inv l A s) (h1 : s.low = lw ++ [c]) (h2 : s.high = hg ++ [q]) :
    (g s.left q - (A - g s.left c) < A → pairs (next A s c q lw hg).left (next A s c q lw hg).low = ((q : Int), g s.left q - (A - g s.left c)) :: pairs s.left lw ∧ pairs (next A s c q lw hg).left (next A s c q lw hg).high = pairs s.left hg) ∧
    (A ≤ g s.left q - (A - g s.left c) → pairs (next A s c q lw hg).left (next A s c q lw hg).low = pairs s.left lw ∧ pairs (next A s c q lw hg).left (next A s c q lw hg).high = ((q : Int), g s.left q - (A - g s.left c)) :: pairs s.left hg) := by
  have hnd := h.nd
  unfold St.act at hnd
  rw [h1, h2] at hnd
  have hq1 : q ∉ lw := fun hin => by
    rw [List.nodup_append] at hnd
    exact hnd.2.2 q (List.mem_append_left _ hin) q (by simp) rfl
  have hq2 : q ∉ hg := fun hin => by
    rw [List.nodup_append] at hnd
    have := hnd.2.1
    rw [List.nodup_append] at this
    exact this.2.2 q hin q (by simp) rfl
  have hql : q < s.left.length := by
    rw [h.ll]
    exact h.lt q (by unfold St.act; rw [h2]; simp)
  have e : g (s.left.set q (g s.left q - (A - g s.left c))) q = g s.left q - (A - g s.left c) := by rw [g_set hql, if_pos rfl]
  unfold next
  constructor
  · intro hc
    simp only
    rw [if_pos hc, if_pos hc, pairs_push, e, pairs_set hq1 hql, pairs_set hq2 hql]
    exact ⟨rfl, rfl⟩
  · intro hc
    simp only
    rw [if_neg (by omega), if_neg (by omega), pairs_push, e, pairs_set hq1 hql, pairs_set hq2 hql]
    exact ⟨rfl, rfl⟩
end Walker
end Go.Proofs.Yteddoccgbebbeab
