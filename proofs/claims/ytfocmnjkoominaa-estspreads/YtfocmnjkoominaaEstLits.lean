/- Estimates over literals, and the three literal slices of one item. Mathematics and shapes alone. -/
import Derived.Test.YtfocmnjkoominaaListTo
import Derived.Test.YtfocmnjkoominaaLit
namespace Go.Proofs.Ytfocmnjkoominaa
open Go.ChangeShapes Go.WideShapes Go.ChangeAt Go.RowKit
open Est Span

theorem sumR_one {x n r : Int} (hx : -100000 ≤ x ∧ x ≤ 100000) (hn : 0 ≤ n ∧ n ≤ 20) (hr : 0 ≤ r ∧ r < 72057594037927936) : sumR [x] [n] [r] = term x n r ∧ sumE [x] [n] [r] = 0 := by
  have h := sumR_listTo (f := fun _ => x) (g := fun _ => n) (h := fun _ => r) (n := 1) (B := 100000) (by decide) (by decide) (by decide) (fun _ _ => hx) (fun _ _ => hn) (fun _ _ => hr)
  have h2 := sumE_listTo (f := fun _ => x) (g := fun _ => n) (h := fun _ => r) (n := 1) (by decide) (fun _ _ => by omega) (fun _ _ => hn) (fun _ _ => hr)
  refine ⟨?_, h2⟩
  have e : sumTo (fun _ => term x n r) 1 = term x n r := by simp [sumTo]
  rw [← e]
  exact h
/-- three slices of literals, one after another -/
theorem lits3 (w : World) (n : Nat) (a b c : List Int) (ca cb cc : Array Value) (ha : ca.toList = (a.map iC).flatten) (hb : cb.toList = (b.map iC).flatten) (hc : cc.toList = (c.map iC).flatten) (la : a.length = n) (lb : b.length = n) (lc : c.length = n) (hn : n ≤ 40) :
    Tab (((w.alloc (.cells ca 3)).alloc (.cells cb 3)).alloc (.cells cc 3)) (some ⟨w.heap.size, 0, none⟩) n n 1 (a.map iC) ∧
    Tab (((w.alloc (.cells ca 3)).alloc (.cells cb 3)).alloc (.cells cc 3)) (some ⟨w.heap.size + 1, 0, none⟩) n n 1 (b.map iC) ∧
    Tab (((w.alloc (.cells ca 3)).alloc (.cells cb 3)).alloc (.cells cc 3)) (some ⟨w.heap.size + 2, 0, none⟩) n n 1 (c.map iC) ∧
    Below w.heap.size w (((w.alloc (.cells ca 3)).alloc (.cells cb 3)).alloc (.cells cc 3)) := by
  have hm : n ≤ maxLen := by unfold maxLen; omega
  refine ⟨?_, ?_, ?_, ?_⟩
  · exact ((tab_lit w 3 1 n (a.map iC) ca ha (by rw [List.length_map]; exact la) (rows_of iC_len _) hm _ rfl).below ((Below.refl _ _).alloc (Nat.le_refl _) _)).below ((Below.refl _ _).alloc (Nat.le_refl _) _)
  · exact (tab_lit (w.alloc (.cells ca 3)) 3 1 n (b.map iC) cb hb (by rw [List.length_map]; exact lb) (rows_of iC_len _) hm _ (by simp)).below ((Below.refl _ _).alloc (Nat.le_refl _) _)
  · exact tab_lit ((w.alloc (.cells ca 3)).alloc (.cells cb 3)) 3 1 n (c.map iC) cc hc (by rw [List.length_map]; exact lc) (rows_of iC_len _) hm _ (by simp)
  · exact (((Below.refl _ _).alloc (Nat.le_refl _) _).alloc (by simp) _).alloc (by simp; omega) _
end Go.Proofs.Ytfocmnjkoominaa
