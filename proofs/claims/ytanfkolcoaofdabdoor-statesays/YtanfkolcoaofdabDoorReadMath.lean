/- A trace state read byte by byte, as the document's own reader does; no Go text in sight. -/
import Derived.Test.YtanfkolcoaofdabDoorStateMath
namespace Go.Proofs.YtanfkolcoaofdabDoor
namespace StateMath

structure RSt where
  out : List Pr
  key : ByteArray
  val : ByteArray
  inn : Bool
def RSt.init : RSt := ⟨[], ByteArray.empty, ByteArray.empty, false⟩
def RSt.step (t : RSt) (c : UInt8) : Option RSt :=
  if c = 44 then (if t.inn = true then some ⟨t.out ++ [(t.key, t.val)], ByteArray.empty, ByteArray.empty, false⟩ else none)
  else if t.inn = true then some { t with val := t.val ++ ⟨#[c]⟩ }
  else if c = 61 then some { t with inn := true }
  else some { t with key := t.key ++ ⟨#[c]⟩ }
def RSt.run (t : RSt) : List UInt8 → Option RSt
  | [] => some t
  | c :: r => (t.step c).bind (fun u => u.run r)
theorem RSt.run_snoc (t : RSt) (l : List UInt8) (c : UInt8) : t.run (l ++ [c]) = (t.run l).bind (fun u => u.step c) := by
  induction l generalizing t with
  | nil => simp [RSt.run]
  | cons d r ih =>
    simp only [List.cons_append, RSt.run]
    cases t.step d with
    | none => rfl
    | some u => exact ih u
theorem RSt.run_none (t : RSt) (l r : List UInt8) (h : t.run l = none) : t.run (l ++ r) = none := by
  induction l generalizing t with
  | nil => cases h
  | cons d l ih =>
    simp only [List.cons_append, RSt.run] at h ⊢
    cases e : t.step d with
    | none => rfl
    | some u => rw [e] at h; exact ih u h
/-- the text, closed by a comma -/
def closed (s : ByteArray) : List UInt8 := s.data.toList ++ [44]
theorem closed_at (s : ByteArray) (k : Nat) (h : k < s.size) : (closed s)[k]? = some s[k] := by
  unfold closed
  rw [List.getElem?_append_left (by simpa using h), List.getElem?_eq_getElem (by simpa using h)]
  rfl
theorem closed_end (s : ByteArray) : (closed s)[s.size]? = some 44 := by
  unfold closed
  rw [List.getElem?_append_right (by simp)]
  simp
theorem closed_len (s : ByteArray) : (closed s).length = s.size + 1 := by simp [closed]
/-- the pairs of a text; none: a part has no equals sign -/
def pairsOf (s : ByteArray) : Option (List Pr) := (RSt.init.run (closed s)).map (·.out)
def readOf (s : ByteArray) : List Pr × Int :=
  if 200 < s.size then ([], 2) else if s.size = 0 then ([], 0) else
  match pairsOf s with
  | none => ([], 3)
  | some l => if check l = 0 then (l, 0) else ([], check l)
theorem run_take (l : List UInt8) (k : Nat) (c : UInt8) (t u : RSt) (h : l[k]? = some c) (hr : RSt.init.run (l.take k) = some t) (hs : t.step c = some u) : RSt.init.run (l.take (k + 1)) = some u := by
  rw [List.take_add_one, h]
  show RSt.init.run (l.take k ++ [c]) = _
  rw [RSt.run_snoc, hr]
  exact hs
theorem run_bad (l : List UInt8) (k : Nat) (c : UInt8) (t : RSt) (h : l[k]? = some c) (hr : RSt.init.run (l.take k) = some t) (hs : t.step c = none) : RSt.init.run l = none := by
  have e : RSt.init.run (l.take (k + 1)) = none := by
    rw [List.take_add_one, h]
    show RSt.init.run (l.take k ++ [c]) = _
    rw [RSt.run_snoc, hr]
    exact hs
  rw [← List.take_append_drop (k + 1) l]
  exact RSt.run_none _ _ _ e

end StateMath
end Go.Proofs.YtanfkolcoaofdabDoor
