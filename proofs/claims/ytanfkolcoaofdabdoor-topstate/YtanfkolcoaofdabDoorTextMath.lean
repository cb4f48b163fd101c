/- The text form of a list of pairs: its bytes are the parts joined by commas, and it has tlen bytes. No Go text in sight. -/
import Derived.Test.YtanfkolcoaofdabDoorStateLen
import Derived.Lib.Join
namespace Go.Proofs.YtanfkolcoaofdabDoor
namespace StateMath

def partL (p : Pr) : List UInt8 := p.1.data.toList ++ 61 :: p.2.data.toList
theorem bytes_add (a b : ByteArray) : (a ++ b).data.toList = a.data.toList ++ b.data.toList := by
  rw [ByteArray.data_append, Array.toList_append]
theorem part_bytes (p : Pr) : (part p).data.toList = partL p := by
  unfold part partL
  rw [bytes_add, bytes_add, List.append_assoc]
  rfl
theorem textFrom_pos (s : ByteArray) (n : Nat) (l : List Pr) : (textFrom s (n + 1) l).data.toList = s.data.toList ++ Lib.joinTail [44] (l.map partL) := by
  induction l generalizing s n with
  | nil => simp [textFrom, Lib.joinTail]
  | cons p t ih =>
    show (textFrom (comma s (n + 1) ++ part p) (n + 2) t).data.toList = _
    rw [ih, bytes_add, part_bytes]
    unfold comma
    rw [if_neg (by omega), bytes_add]
    simp [Lib.joinTail]
theorem textB_bytes (L : List Pr) : (textB L).data.toList = Lib.join (L.map partL) [44] := by
  cases L with
  | nil => rfl
  | cons p t =>
    show (textFrom (comma ByteArray.empty 0 ++ part p) 1 t).data.toList = _
    rw [textFrom_pos, bytes_add, part_bytes, List.map_cons, Lib.join_cons]
    rfl
theorem tail_len (t : List Pr) : (Lib.joinTail [44] (t.map partL)).length = 2 * t.length + sumT t := by
  induction t with
  | nil => rfl
  | cons p t ih =>
    have e : Lib.joinTail [44] ((p :: t).map partL) = 44 :: partL p ++ Lib.joinTail [44] (t.map partL) := by simp [Lib.joinTail]
    rw [e, List.length_append, ih]
    unfold sumT partL
    simp
    omega
theorem textB_size (L : List Pr) : (textB L).size = tlen L := by
  rw [← len_list, textB_bytes]
  cases L with
  | nil => rfl
  | cons p t =>
    rw [List.map_cons, Lib.join_cons, List.length_append, tail_len]
    unfold tlen sumT partL
    rw [if_neg (by simp)]
    simp
    omega
end StateMath
end Go.Proofs.YtanfkolcoaofdabDoor
