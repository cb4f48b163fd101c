/- What Set returns: the mark's pairs ahead of the other pairs; no Go text in sight. -/
import Derived.Test.YtfocmnjkoominaaDoorMarkMath
import Derived.Test.YtfocmnjkoominaaDoorHexa
namespace Go.Proofs.YtfocmnjkoominaaDoor
namespace StateMath

/-- neither a threshold nor a random value -/
def plainP (p : Pr) : Bool := !(p.1.data.toList == [116, 104]) && !(p.1.data.toList == [114, 118])
def othersOf (L : List Pr) : List Pr := L.filter plainP
def thP (m : Mk) : Pr := (⟨#[116, 104]⟩, thB m.th.toNat)
def rvP (m : Mk) : Pr := (⟨#[114, 118]⟩, rvB m.rv.toNat)
def marksOf (m : Mk) : List Pr := (if m.ht then [thP m] else []) ++ (if m.hr then [rvP m] else [])
def mkOk (m : Mk) : Bool := (decide (0 ≤ m.th) && decide (m.th < 72057594037927936)) && (decide (0 ≤ m.rv) && decide (m.rv < 72057594037927936))
def setOf (L : List Pr) (m : Mk) : List Pr × Int :=
  if check L = 0 then (if mkOk m then (if 40 < (marksOf m ++ othersOf L).length then ([], 2) else (marksOf m ++ othersOf L, 0)) else ([], 1)) else ([], check L)
theorem others_take (L : List Pr) (k : Nat) (p : Pr) (h : L[k]? = some p) : othersOf (L.take (k + 1)) = othersOf (L.take k) ++ (if plainP p then [p] else []) := by
  unfold othersOf
  rw [List.take_add_one, h]
  simp only [Option.toList_some, List.filter_append, List.filter_cons, List.filter_nil]
theorem others_le (L : List Pr) : (othersOf L).length ≤ L.length := List.length_filter_le _ _
theorem marks_le (m : Mk) : (marksOf m).length ≤ 2 := by
  unfold marksOf
  cases m.ht <;> cases m.hr <;> simp
theorem setOf_bad {L : List Pr} {m : Mk} (h : check L ≠ 0) : setOf L m = ([], check L) := by unfold setOf; rw [if_neg h]
theorem setOf_arg {L : List Pr} {m : Mk} (h : check L = 0) (hm : mkOk m = false) : setOf L m = ([], 1) := by unfold setOf; rw [if_pos h, hm]; rfl
theorem setOf_large {L : List Pr} {m : Mk} (h : check L = 0) (hm : mkOk m = true) (hl : 40 < (marksOf m ++ othersOf L).length) : setOf L m = ([], 2) := by unfold setOf; rw [if_pos h, hm, if_pos rfl, if_pos hl]
theorem setOf_ok {L : List Pr} {m : Mk} (h : check L = 0) (hm : mkOk m = true) (hl : (marksOf m ++ othersOf L).length ≤ 40) : setOf L m = (marksOf m ++ othersOf L, 0) := by unfold setOf; rw [if_pos h, hm, if_pos rfl, if_neg (by omega)]
end StateMath
end Go.Proofs.YtfocmnjkoominaaDoor
