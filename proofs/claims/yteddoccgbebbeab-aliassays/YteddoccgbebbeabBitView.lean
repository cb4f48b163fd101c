/- A slice of pairs of numbers that may begin inside its block (a list from which the first was cut off): what it holds, its head, its tail, a store into its head. -/
import Derived.Test.YteddoccgbebbeabOwnTwo
import Derived.Test.YteddoccgbebbeabSubSlice
namespace Go.Proofs.Yteddoccgbebbeab
open Go.ChangeShapes Go.WideShapes Go.ChangeAt Go.RowKit

structure Vw (e : TypeId) (w : World) (v : Value) (R : List (Int × Int)) : Prop where
  form : ∃ a cap, v = .slice a R.length cap ∧ R.length ≤ cap ∧ cap ≤ maxLen ∧ (a = none → cap = 0) ∧ (R ≠ [] → ∃ g off cur, a = some ⟨g, off, none⟩ ∧ w.heap[g]? = some (.cells cur e (0, 0)) ∧ ∀ (i : Nat) (p : Int × Int), R[i]? = some p → cur[off + i * 2]? = some (.int .i64 p.1) ∧ cur[off + i * 2 + 1]? = some (.int .i64 p.2))
variable {e : TypeId} {w w' : World} {v : Value} {R : List (Int × Int)}
theorem Vw.nil (e : TypeId) (w : World) : Vw e w (.slice none 0 0) [] := ⟨⟨none, 0, rfl, Nat.le_refl _, Nat.zero_le _, fun _ => rfl, fun h => absurd rfl h⟩⟩
theorem Vw.kept (h : Vw e w v R) (hk : ∀ g, v.ownBlock = some g → g < w.heap.size → w'.heap[g]? = w.heap[g]?) : Vw e w' v R := by
  obtain ⟨a, cap, rfl, h1, h2, h3, h4⟩ := h.form
  refine ⟨⟨a, cap, rfl, h1, h2, h3, fun hR => ?_⟩⟩
  obtain ⟨g, off, cur, rfl, hc, hd⟩ := h4 hR
  exact ⟨g, off, cur, rfl, (hk g rfl (Array.getElem?_eq_some_iff.1 hc).1).trans hc, hd⟩
theorem Vw.keptBy (h : Vw e w v R) {row : Option Nat} (hg : w.grownBy w' row) (hne : v.ownBlock = none ∨ v.ownBlock ≠ row) : Vw e w' v R :=
  h.kept (fun g hv hlt => hg.block g hlt (fun er => by rcases hne with hn | hn
                                                       · rw [hv] at hn; cases hn
                                                       · exact hn (hv.trans er)))
theorem Vw.below (h : Vw e w v R) (hb : Below w.heap.size w w') : Vw e w' v R := h.kept (fun g _ hlt => hb.block g hlt)
theorem Vw.of_own {base : Nat} (h : Own w base e 2 v (R.map iiC)) : Vw e w v R := by
  have hl : (R.map iiC).length = R.length := List.length_map ..
  obtain ⟨⟨hx, hv⟩, hR⟩ := h
  rw [hl] at hv hx
  rcases hv with ⟨rfl, hn⟩ | ⟨g, cap, cur, rfl, hg, hcur, hle, hm, hsz, htk⟩
  · have : R = [] := List.length_eq_zero_iff.1 hn
    subst this
    exact Vw.nil e w
  · refine ⟨⟨some ⟨g, 0, none⟩, cap, rfl, hle, hm, (fun h => by cases h), fun _ => ⟨g, 0, cur, rfl, hcur, fun i p hp => ?_⟩⟩⟩
    have hi : i < R.length := (List.getElem?_eq_some_iff.1 hp).1
    have get : ∀ (j : Nat) (u : Value), j < 2 → (iiC p)[j]? = some u → cur[i * 2 + j]? = some u := fun j u hj hu => by
      have e1 := flatten_get hR (map_get (f := iiC) hp) hu
      rw [← htk, List.getElem?_take_of_lt (by omega), Array.getElem?_toList] at e1
      exact e1
    rw [Nat.zero_add]
    exact ⟨by have := get 0 _ (by decide) rfl; rwa [Nat.add_zero] at this, get 1 _ (by decide) rfl⟩
theorem Vw.tab {a : Option Addr} {n cap : Nat} (h : Vw e w (.slice a n cap) R) : Tab w a n cap 2 (R.map iiC) := by
  obtain ⟨a', cap', he, h1, h2, h3, h4⟩ := h.form
  simp only [Value.slice.injEq] at he
  obtain ⟨rfl, rfl, rfl⟩ := he
  refine ⟨List.length_map .., h1, h2, h3, fun hl => ?_⟩
  obtain ⟨g, off, cur, rfl, hc, hd⟩ := h4 (fun e => by rw [e] at hl; simp at hl)
  refine ⟨g, off, rfl, (Array.getElem?_eq_some_iff.1 hc).1, fun i r hr j u hu => ?_⟩
  obtain ⟨p, hp, rfl⟩ : ∃ p, R[i]? = some p ∧ iiC p = r := by
    rw [List.getElem?_map] at hr
    cases hp : R[i]? with
    | none => rw [hp] at hr; cases hr
    | some p => rw [hp] at hr; exact ⟨p, rfl, by simpa using hr⟩
  have hd := hd i p hp
  have hj : j = 0 ∨ j = 1 := by
    have := (List.getElem?_eq_some_iff.1 hu).1
    simp [iiC] at this
    omega
  unfold World.cell?
  rw [hc]
  rcases hj with rfl | rfl
  · simp [iiC] at hu; subst hu; rw [Nat.add_zero]; simpa using hd.1
  · simp [iiC] at hu; subst hu; rw [← Nat.add_assoc]; simpa using hd.2
/-- the first pair, where it lies, and that it may be written -/
theorem Vw.head {a : Option Addr} {n cap : Nat} {p : Int × Int} (h : Vw e w (.slice a n cap) (p :: R)) : ∃ g off, a = some ⟨g, off, none⟩ ∧ n = R.length + 1 ∧ g < w.heap.size ∧ w.cell? ⟨g, off, none⟩ = some (.int .i64 p.1) ∧ w.cell? ⟨g, off + 1, none⟩ = some (.int .i64 p.2) ∧ w.frozen? ⟨g, off, none⟩ = false ∧ w.frozen? ⟨g, off + 1, none⟩ = false := by
  obtain ⟨a', cap', he, h1, h2, h3, h4⟩ := h.form
  simp only [Value.slice.injEq] at he
  obtain ⟨rfl, rfl, rfl⟩ := he
  obtain ⟨g, off, cur, rfl, hc, hd⟩ := h4 (by simp)
  have hd := hd 0 p rfl
  rw [Nat.zero_mul, Nat.add_zero] at hd
  refine ⟨g, off, rfl, List.length_cons .., (Array.getElem?_eq_some_iff.1 hc).1, ?_, ?_, ?_, ?_⟩
  · simp [World.cell?, hc, hd.1]
  · simp [World.cell?, hc, hd.2]
  · simp [World.frozen?, hc]
  · simp [World.frozen?, hc]
/-- without its first pair -/
theorem Vw.tail {a : Option Addr} {n cap : Nat} {p : Int × Int} (h : Vw e w (.slice a n cap) (p :: R)) : Vw e w (.slice (fromA a cap 1 2) (n - 1) (cap - 1)) R ∧ (Value.slice (fromA a cap 1 2) (n - 1) (cap - 1)).ownBlock = (Value.slice a n cap).ownBlock := by
  obtain ⟨a', cap', he, h1, h2, h3, h4⟩ := h.form
  simp only [Value.slice.injEq] at he
  obtain ⟨rfl, rfl, rfl⟩ := he
  obtain ⟨g, off, cur, rfl, hc, hd⟩ := h4 (by simp)
  rw [List.length_cons] at h1
  have hf : fromA (some ⟨g, off, none⟩) cap 1 2 = if cap = 1 then some ⟨g, off, none⟩ else some ⟨g, off + 2, none⟩ := by
    unfold fromA
    split
    · rfl
    · simp [addr_add]
  refine ⟨⟨⟨_, cap - 1, by rw [List.length_cons, Nat.add_sub_cancel], by omega, by omega, fun hn => ?_, fun hR => ?_⟩⟩, ?_⟩
  · rw [hf] at hn; split at hn <;> cases hn
  · have hcap : cap ≠ 1 := fun e => hR (List.length_eq_zero_iff.1 (by omega))
    rw [hf, if_neg hcap]
    refine ⟨g, off + 2, cur, rfl, hc, fun i q hq => ?_⟩
    have := hd (i + 1) q (by rw [List.getElem?_cons_succ]; exact hq)
    rw [show off + 2 + i * 2 = off + (i + 1) * 2 from by omega]
    exact this
  · rw [hf]; split <;> rfl
/-- its first pair is written anew -/
theorem Vw.put {g off n cap : Nat} {p : Int × Int} (h : Vw e w (.slice (some ⟨g, off, none⟩) n cap) (p :: R)) (x y : Int) : Vw e ((w.setCell ⟨g, off, none⟩ (.int .i64 x)).setCell ⟨g, off + 1, none⟩ (.int .i64 y)) (.slice (some ⟨g, off, none⟩) n cap) ((x, y) :: R) := by
  obtain ⟨a', cap', he, h1, h2, h3, h4⟩ := h.form
  simp only [Value.slice.injEq] at he
  obtain ⟨rfl, rfl, rfl⟩ := he
  obtain ⟨g', off', cur, ha, hc, hd⟩ := h4 (by simp)
  simp only [Option.some.injEq, Addr.mk.injEq, and_true] at ha
  obtain ⟨rfl, rfl⟩ := ha
  have c1 := heap_setCell_same w g off cur e (.int .i64 x) hc
  have c2 := heap_setCell_same _ g (off + 1) _ e (.int .i64 y) c1
  refine ⟨⟨_, cap, by rw [List.length_cons, List.length_cons], by rw [List.length_cons] at h1 ⊢; exact h1, h2, fun hn => (by cases hn), fun _ => ⟨g, off, _, rfl, c2, fun i q hq => ?_⟩⟩⟩
  have h0 := hd 0 p rfl
  rw [Nat.zero_mul, Nat.add_zero] at h0
  have l0 : off < cur.size := (Array.getElem?_eq_some_iff.1 h0.1).1
  have l1 : off + 1 < cur.size := (Array.getElem?_eq_some_iff.1 h0.2).1
  cases i with
  | zero =>
    rw [List.getElem?_cons_zero, Option.some.injEq] at hq
    subst hq
    rw [Nat.zero_mul, Nat.add_zero]
    simp [Array.getElem?_setIfInBounds, l0, l1]
  | succ i =>
    have := hd (i + 1) q (by rw [List.getElem?_cons_succ] at hq ⊢; exact hq)
    rw [Array.getElem?_setIfInBounds_ne (by omega), Array.getElem?_setIfInBounds_ne (by omega), Array.getElem?_setIfInBounds_ne (by omega), Array.getElem?_setIfInBounds_ne (by omega)]
    exact this
end Go.Proofs.Yteddoccgbebbeab
