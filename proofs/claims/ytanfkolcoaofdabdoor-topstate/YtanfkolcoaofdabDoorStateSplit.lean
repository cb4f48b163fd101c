/- The contract of the program's state.split, by the parts that strings.Split and strings.Cut hand out. -/
import Derived.Test.YtanfkolcoaofdabDoorStateWrite
import Derived.Test.YtanfkolcoaofdabDoorInfoPairs
namespace Go.Proofs.YtanfkolcoaofdabDoor
open Go.ChangeShapes Go.WideShapes Go.ChangeAt Go.RowKit
open StateMath

namespace StateMath
/-- the parts of a text between its commas -/
def partsOf (s : ByteArray) : List ByteArray := Lib.splitB ⟨#[44]⟩ 0 (Lib.countB s ⟨#[44]⟩) s
/-- a part cut at its first equals sign -/
def cutP (q : ByteArray) : Option Pr := if (Lib.cut q.data.toList [61]).2.2 = true then some (⟨(Lib.cut q.data.toList [61]).1.toArray⟩, ⟨(Lib.cut q.data.toList [61]).2.1.toArray⟩) else none
def cutAll : List ByteArray → Option (List Pr)
  | [] => some []
  | q :: t => (cutP q).bind (fun p => (cutAll t).map (fun r => p :: r))
theorem cutAll_snoc (l : List ByteArray) (q : ByteArray) : cutAll (l ++ [q]) = (cutAll l).bind (fun r => (cutP q).map (fun p => r ++ [p])) := by
  induction l with
  | nil => show (cutP q).bind _ = _; cases cutP q <;> rfl
  | cons x t ih =>
    show (cutP x).bind (fun p => (cutAll (t ++ [q])).map (fun r => p :: r)) = _
    rw [ih]
    show _ = ((cutP x).bind (fun p => (cutAll t).map (fun r => p :: r))).bind _
    cases cutP x <;> cases cutAll t <;> cases cutP q <;> rfl
theorem cutAll_none (l r : List ByteArray) (h : cutAll l = none) : cutAll (l ++ r) = none := by
  induction l with
  | nil => cases h
  | cons x t ih =>
    show (cutP x).bind (fun p => (cutAll (t ++ r)).map (fun r => p :: r)) = none
    cases hx : cutP x with
    | none => rfl
    | some p =>
      have : cutAll t = none := by
        have h' : (cutP x).bind (fun p => (cutAll t).map (fun r => p :: r)) = none := h
        rw [hx] at h'
        cases ht : cutAll t with
        | none => rfl
        | some u => rw [ht] at h'; cases h'
      show (cutAll (t ++ r)).map _ = none
      rw [ih this]
      rfl
theorem cutAll_len (l : List ByteArray) (R : List Pr) (h : cutAll l = some R) : R.length = l.length := by
  induction l generalizing R with
  | nil => cases h; rfl
  | cons x t ih =>
    have h' : (cutP x).bind (fun p => (cutAll t).map (fun r => p :: r)) = some R := h
    cases hx : cutP x with
    | none => rw [hx] at h'; cases h'
    | some p =>
      rw [hx] at h'
      cases ht : cutAll t with
      | none => rw [ht] at h'; cases h'
      | some u => rw [ht] at h'; cases h'; simp [ih u ht]
end StateMath
end Go.Proofs.YtanfkolcoaofdabDoor
