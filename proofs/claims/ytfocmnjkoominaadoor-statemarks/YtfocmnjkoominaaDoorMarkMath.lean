/- The threshold and the random value that a list of pairs carries; no Go text in sight. -/
import Derived.Test.YtfocmnjkoominaaDoorStateMath
import Derived.Test.YtfocmnjkoominaaDoorHexaText
namespace Go.Proofs.YtfocmnjkoominaaDoor
namespace StateMath

structure Mk where
  th : Int
  rv : Int
  ht : Bool
  hr : Bool
def Mk.zero : Mk := ⟨0, 0, false, false⟩
/-- one pair more -/
def Mk.step (m : Mk) (p : Pr) : Option Mk :=
  if p.1.data.toList = [116, 104] then (HexaMath.parseTh p.2.data.toList).map (fun n => { m with th := (n : Nat), ht := true })
  else if p.1.data.toList = [114, 118] then (HexaMath.parseRv p.2.data.toList).map (fun n => { m with rv := (n : Nat), hr := true })
  else some m
def Mk.run (m : Mk) : List Pr → Option Mk
  | [] => some m
  | p :: t => (m.step p).bind (fun u => u.run t)
theorem Mk.run_append (m : Mk) (l r : List Pr) : m.run (l ++ r) = (m.run l).bind (fun u => u.run r) := by
  induction l generalizing m with
  | nil => rfl
  | cons p t ih =>
    show (m.step p).bind _ = ((m.step p).bind _).bind _
    cases m.step p with
    | none => rfl
    | some u => exact ih u
theorem Mk.run_take (m t u : Mk) (L : List Pr) (k : Nat) (p : Pr) (h : L[k]? = some p) (hr : m.run (L.take k) = some t) (hs : t.step p = some u) : m.run (L.take (k + 1)) = some u := by
  rw [List.take_add_one, h]
  show m.run (L.take k ++ [p]) = _
  rw [Mk.run_append, hr]
  show (t.step p).bind _ = _
  rw [hs]
  rfl
theorem Mk.run_bad (m t : Mk) (L : List Pr) (k : Nat) (p : Pr) (h : L[k]? = some p) (hr : m.run (L.take k) = some t) (hs : t.step p = none) : m.run L = none := by
  have e : L = L.take k ++ p :: L.drop (k + 1) := by
    obtain ⟨hk, rfl⟩ := List.getElem?_eq_some_iff.1 h
    rw [← List.drop_eq_getElem_cons hk, List.take_append_drop]
  rw [e, Mk.run_append, hr]
  show (t.step p).bind _ = _
  rw [hs]
  rfl
/-- what is told, and the error -/
def markOf (L : List Pr) : Mk × Int :=
  if check L = 0 then (match Mk.zero.run L with | some m => (m, 0) | none => (Mk.zero, 3)) else (Mk.zero, check L)
theorem markOf_bad {L : List Pr} (h : check L ≠ 0) : markOf L = (Mk.zero, check L) := by unfold markOf; rw [if_neg h]
theorem markOf_none {L : List Pr} (h : check L = 0) (hr : Mk.zero.run L = none) : markOf L = (Mk.zero, 3) := by unfold markOf; rw [if_pos h, hr]
theorem markOf_some {L : List Pr} {m : Mk} (h : check L = 0) (hr : Mk.zero.run L = some m) : markOf L = (m, 0) := by unfold markOf; rw [if_pos h, hr]

/-! ### order does not matter -/
theorem Mk.comm (m : Mk) (p q : Pr) (h : p.1 ≠ q.1) : (m.step p).bind (fun u => u.step q) = (m.step q).bind (fun u => u.step p) := by
  have hne : p.1.data.toList ≠ q.1.data.toList := by
    intro e
    apply h
    cases hp : p.1 with | mk a =>
    cases hq : q.1 with | mk b =>
    rw [hp, hq] at e
    simp at e
    rw [e]
  unfold Mk.step
  by_cases p1 : p.1.data.toList = [116, 104] <;> by_cases p2 : p.1.data.toList = [114, 118] <;> by_cases q1 : q.1.data.toList = [116, 104] <;> by_cases q2 : q.1.data.toList = [114, 118]
  all_goals simp only [p1, p2, q1, q2, if_true, if_false, reduceIte]
  all_goals first
    | (exact absurd (p1.trans q1.symm) hne)
    | (exact absurd (p2.trans q2.symm) hne)
    | (cases HexaMath.parseTh p.2.data.toList <;> cases HexaMath.parseRv q.2.data.toList <;> rfl)
    | (cases HexaMath.parseTh q.2.data.toList <;> cases HexaMath.parseRv p.2.data.toList <;> rfl)
    | (cases HexaMath.parseTh p.2.data.toList <;> rfl)
    | (cases HexaMath.parseTh q.2.data.toList <;> rfl)
    | (cases HexaMath.parseRv p.2.data.toList <;> rfl)
    | (cases HexaMath.parseRv q.2.data.toList <;> rfl)
    | rfl
def Apart (L : List Pr) : Prop := L.Pairwise (fun p q => p.1 ≠ q.1)
theorem Mk.run_perm {l r : List Pr} (h : l.Perm r) : Apart l → ∀ m : Mk, m.run l = m.run r := by
  induction h with
  | nil => intro _ m; rfl
  | cons x _ ih =>
    intro hp m
    show (m.step x).bind _ = (m.step x).bind _
    congr 1
    funext u
    exact ih (List.pairwise_cons.1 hp).2 u
  | swap x y l =>
    intro hp m
    have hne : y.1 ≠ x.1 := (List.pairwise_cons.1 hp).1 x (List.mem_cons_self ..)
    show (m.step y).bind (fun u => (u.step x).bind (fun v => v.run l)) = (m.step x).bind (fun u => (u.step y).bind (fun v => v.run l))
    rw [← Option.bind_assoc, ← Option.bind_assoc, Mk.comm m y x hne]
  | trans h1 _ ih1 ih2 =>
    intro hp m
    rw [ih1 hp m]
    exact ih2 ((List.Perm.pairwise_iff (fun h => h.symm) h1).1 hp) m
theorem scan_zero_iff (seen L : List Pr) : scan seen L = 0 ↔ (∀ p ∈ L, pairOk p = true) ∧ (∀ p ∈ L, ∀ q ∈ seen, q.1 ≠ p.1) ∧ Apart L := by
  induction L generalizing seen with
  | nil => simp [scan, Apart]
  | cons p t ih =>
    rw [scan]
    by_cases h1 : pairOk p = false
    · rw [if_pos h1]
      constructor
      · intro h; cases h
      · intro h; have := h.1 p (List.mem_cons_self ..); rw [h1] at this; cases this
    · rw [if_neg h1]
      have h1' : pairOk p = true := by simpa using h1
      by_cases h2 : seen.any (fun q => decide (q.1 = p.1)) = true
      · rw [if_pos h2]
        constructor
        · intro h; cases h
        · intro h
          obtain ⟨q, hq, e⟩ := List.any_eq_true.1 h2
          exact absurd (of_decide_eq_true e) (h.2.1 p (List.mem_cons_self ..) q hq)
      · rw [if_neg h2, ih]
        have h2' : ∀ q ∈ seen, q.1 ≠ p.1 := by
          intro q hq e
          exact h2 (List.any_eq_true.2 ⟨q, hq, decide_eq_true e⟩)
        constructor
        · rintro ⟨a, b, c⟩
          refine ⟨?_, ?_, List.pairwise_cons.2 ⟨?_, c⟩⟩
          · intro x hx
            rcases List.mem_cons.1 hx with rfl | hx
            · exact h1'
            · exact a x hx
          · intro x hx q hq
            rcases List.mem_cons.1 hx with rfl | hx
            · exact h2' q hq
            · exact b x hx q (List.mem_append.2 (Or.inl hq))
          · intro x hx
            exact b x hx p (List.mem_append.2 (Or.inr (List.mem_singleton.2 rfl)))
        · rintro ⟨a, b, c⟩
          have c' := List.pairwise_cons.1 c
          refine ⟨fun x hx => a x (List.mem_cons_of_mem _ hx), ?_, c'.2⟩
          intro x hx q hq
          rcases List.mem_append.1 hq with hq | hq
          · exact b x (List.mem_cons_of_mem _ hx) q hq
          · rw [List.mem_singleton.1 hq]
            exact c'.1 x hx
theorem check_zero_iff (L : List Pr) : check L = 0 ↔ L.length ≤ 40 ∧ (∀ p ∈ L, pairOk p = true) ∧ Apart L := by
  unfold check
  by_cases h : 40 < L.length
  · rw [if_pos h]
    constructor
    · intro h'; cases h'
    · intro h'; omega
  · rw [if_neg h, scan_zero_iff]
    constructor
    · rintro ⟨a, _, c⟩; exact ⟨by omega, a, c⟩
    · rintro ⟨_, a, c⟩; exact ⟨a, by simp, c⟩
theorem check_perm {l r : List Pr} (h : l.Perm r) (hl : check l = 0) : check r = 0 := by
  rw [check_zero_iff] at hl ⊢
  refine ⟨by rw [← h.length_eq]; exact hl.1, fun p hp => hl.2.1 p (h.mem_iff.2 hp), (List.Perm.pairwise_iff (fun h => h.symm) h).1 hl.2.2⟩
theorem markOf_perm {l r : List Pr} (h : l.Perm r) (hl : check l = 0) : markOf l = markOf r := by
  unfold markOf
  rw [if_pos hl, if_pos (check_perm h hl), Mk.run_perm h ((check_zero_iff l).1 hl).2.2]
end StateMath
end Go.Proofs.YtfocmnjkoominaaDoor
