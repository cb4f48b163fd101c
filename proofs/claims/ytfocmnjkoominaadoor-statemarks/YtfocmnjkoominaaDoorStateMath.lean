/- Trace states: keys, values, lists of pairs, as the document says; no Go text in sight. -/
import Derived.Test.YtfocmnjkoominaaDoorBase
import Derived.Lib.Bytealg
namespace Go.Proofs.YtfocmnjkoominaaDoor
namespace StateMath

/-- a letter a to z or a digit -/
def keyByte (c : UInt8) : Bool := (decide (97 ≤ c) && decide (c ≤ 122)) || (decide (48 ≤ c) && decide (c ≤ 57))
def keyOk (l : List UInt8) : Bool := l.all keyByte && (decide (1 ≤ l.length) && decide (l.length ≤ 16))
/-- 33 to 126, no comma, no equals sign, no semicolon -/
def valByte (c : UInt8) : Bool := decide (33 ≤ c) && decide (c ≤ 126) && (c != 44 && c != 61 && c != 59)
def valOk (l : List UInt8) : Bool := !l.isEmpty && l.all valByte
abbrev Pr := ByteArray × ByteArray
def pairOk (p : Pr) : Bool := keyOk p.1.data.toList && valOk p.2.data.toList
/-- what is wrong with the pairs that follow those whose keys were seen: 3 form, 5 there already, 0 nothing -/
def scan (seen : List Pr) : List Pr → Int
  | [] => 0
  | p :: t => if pairOk p = false then 3 else if seen.any (fun q => decide (q.1 = p.1)) = true then 5 else scan (seen ++ [p]) t
def check (l : List Pr) : Int := if 40 < l.length then 2 else scan [] l

theorem key_index : ∀ i : Fin 256, decide (Lib.indexByte [97, 98, 99, 100, 101, 102, 103, 104, 105, 106, 107, 108, 109, 110, 111, 112, 113, 114, 115, 116, 117, 118, 119, 120, 121, 122, 48, 49, 50, 51, 52, 53, 54, 55, 56, 57] (UInt8.ofNat i.val) < 0) = !keyByte (UInt8.ofNat i.val) := by decide +kernel
theorem val_index : ∀ i : Fin 256, (decide ((UInt8.ofNat i.val).toNat < 33) || (decide (126 < (UInt8.ofNat i.val).toNat) || decide (0 ≤ Lib.indexByte [44, 61, 59] (UInt8.ofNat i.val)))) = !valByte (UInt8.ofNat i.val) := by decide +kernel
theorem all_bytes {p : UInt8 → Prop} (h : ∀ i : Fin 256, p (UInt8.ofNat i.val)) (c : UInt8) : p c := by
  have := h ⟨c.toNat, c.toNat_lt⟩
  rwa [show UInt8.ofNat c.toNat = c from UInt8.ofNat_toNat] at this
theorem take_all {f : UInt8 → Bool} (s : ByteArray) (k : Nat) (h : k < s.size) : (s.data.toList.take (k + 1)).all f = ((s.data.toList.take k).all f && f s[k]) := by
  have e : s.data.toList[k]? = some s[k] := by
    rw [List.getElem?_eq_getElem (by simpa using h)]
    rfl
  rw [List.take_add_one, e]
  simp
theorem all_no {f : UInt8 → Bool} (s : ByteArray) (k : Nat) (h : k < s.size) (hx : f s[k] = false) : s.data.toList.all f = false := by
  rw [List.all_eq_false]
  exact ⟨s[k], List.getElem_mem (l := s.data.toList) (by simpa using h), by rw [hx]; decide⟩
theorem take_full (s : ByteArray) (k : Nat) (h : ¬ k < s.size) : s.data.toList.take k = s.data.toList := List.take_of_length_le (by simp; omega)
theorem len_list (s : ByteArray) : s.data.toList.length = s.size := by simp
theorem scan_step (L : List Pr) (k : Nat) (p : Pr) (h : L[k]? = some p) (h1 : pairOk p = true) (h2 : (L.take k).any (fun q => decide (q.1 = p.1)) = false) : scan (L.take k) (L.drop k) = scan (L.take (k + 1)) (L.drop (k + 1)) := by
  have e : L.drop k = p :: L.drop (k + 1) := by
    obtain ⟨hk, rfl⟩ := List.getElem?_eq_some_iff.1 h
    exact List.drop_eq_getElem_cons hk
  rw [e, scan, if_neg (by rw [h1]; decide), if_neg (by rw [h2]; decide), List.take_add_one, h]
  rfl
theorem scan_form (L : List Pr) (k : Nat) (p : Pr) (h : L[k]? = some p) (h1 : pairOk p = false) : scan (L.take k) (L.drop k) = 3 := by
  have e : L.drop k = p :: L.drop (k + 1) := by
    obtain ⟨hk, rfl⟩ := List.getElem?_eq_some_iff.1 h
    exact List.drop_eq_getElem_cons hk
  rw [e, scan, if_pos h1]
theorem scan_there (L : List Pr) (k : Nat) (p : Pr) (h : L[k]? = some p) (h1 : pairOk p = true) (h2 : (L.take k).any (fun q => decide (q.1 = p.1)) = true) : scan (L.take k) (L.drop k) = 5 := by
  have e : L.drop k = p :: L.drop (k + 1) := by
    obtain ⟨hk, rfl⟩ := List.getElem?_eq_some_iff.1 h
    exact List.drop_eq_getElem_cons hk
  rw [e, scan, if_neg (by rw [h1]; decide), if_pos h2]
theorem scan_end (L : List Pr) (k : Nat) (h : L.length ≤ k) : scan (L.take k) (L.drop k) = 0 := by
  rw [List.drop_eq_nil_of_le h]
  rfl
theorem any_take (L : List Pr) (f : Pr → Bool) (m : Nat) (q : Pr) (h : L[m]? = some q) : (L.take (m + 1)).any f = ((L.take m).any f || f q) := by
  rw [List.take_add_one, h]
  simp
theorem any_of {L : List Pr} {f : Pr → Bool} {m k : Nat} {q : Pr} (h : L[m]? = some q) (hm : m < k) (hf : f q = true) : (L.take k).any f = true := by
  rw [List.any_eq_true]
  obtain ⟨hk, rfl⟩ := List.getElem?_eq_some_iff.1 h
  exact ⟨L[m], List.mem_take_iff_getElem.2 ⟨m, by omega, rfl⟩, hf⟩

/-! ### the text form -/
def part (p : Pr) : ByteArray := p.1 ++ ⟨#[61]⟩ ++ p.2
def comma (s : ByteArray) (n : Nat) : ByteArray := if n = 0 then s else s ++ ⟨#[44]⟩
def textFrom : ByteArray → Nat → List Pr → ByteArray
  | s, _, [] => s
  | s, n, p :: t => textFrom (comma s n ++ part p) (n + 1) t
def textB (l : List Pr) : ByteArray := textFrom ByteArray.empty 0 l
theorem textFrom_snoc (s : ByteArray) (n : Nat) (l : List Pr) (p : Pr) : textFrom s n (l ++ [p]) = comma (textFrom s n l) (n + l.length) ++ part p := by
  induction l generalizing s n with
  | nil => rfl
  | cons q t ih =>
    show textFrom (comma s n ++ part q) (n + 1) (t ++ [p]) = comma (textFrom (comma s n ++ part q) (n + 1) t) (n + (t.length + 1)) ++ part p
    rw [ih, show n + (t.length + 1) = n + 1 + t.length from by omega]
theorem textB_take (L : List Pr) (k : Nat) (p : Pr) (h : L[k]? = some p) : textB (L.take (k + 1)) = comma (textB (L.take k)) k ++ part p := by
  have hk : k < L.length := (List.getElem?_eq_some_iff.1 h).1
  rw [List.take_add_one, h]
  show textFrom _ 0 (L.take k ++ [p]) = _
  rw [textFrom_snoc, List.length_take, Nat.zero_add, Nat.min_eq_left (by omega)]
  rfl

end StateMath
end Go.Proofs.YtfocmnjkoominaaDoor
