/- Permutations in slices of their own, gathered in an own slice of slices; and the test of an element for a set in a variable. -/
import Derived.Test.YtoijeafhohcbdaaThings
import Derived.Test.YtoijeafhohcbdaaAlikeSign
import Derived.Test.YtoijeafhohcbdaaOwnTwo
import Derived.Test.YtoijeafhohcbdaaFindFunc
namespace Go.Proofs.Ytoijeafhohcbdaa
open Go.ChangeShapes Go.WideShapes Go.ChangeAt Go.RowKit
open Alk Digit

theorem info_slints : (Try.prog.info? 23).map (fun i => (i.zero, i.size, i.bytes)) = some (some (.slice none 0 0), 1, 24) := by kernel_rfl
theorem slC_len {α : Type} (s : Sl α) : (slC s).length = 1 := rfl
theorem tab_grown {w w' : World} {a : Option Addr} {n c k : Nat} {R : List (List Value)} {row : Option Nat} (h : Tab w a n c k R) (hg : w.grownBy w' row) (hne : ∀ ad, a = some ad → row ≠ some ad.block) : Tab w' a n c k R := by
  refine ⟨h.hlen, h.hle, h.hmax, h.hnil, fun hl => ?_⟩
  obtain ⟨b, off, ha, hlt, hc⟩ := h.hspot hl
  have h1 := hne _ ha
  refine ⟨b, off, ha, Nat.lt_of_lt_of_le hlt hg.size, fun i r hr j u hu => ?_⟩
  rw [World.cell?_of_block (hg.block b hlt (fun e => h1 e.symm))]
  exact hc i r hr j u hu
structure GoodRow (w : World) (n : Nat) (v : Value) (s : Sl Int) : Prop where
  tab : Tab w s.a s.len s.cap 1 (s.l.map iC)
  len : s.l.length = n
  ok : Ok s.l
  off : ∀ ad, s.a = some ad → v.ownBlock ≠ some ad.block ∧ ad.block < w.heap.size
theorem GoodRow.below {w w' : World} {n : Nat} {v : Value} {s : Sl Int} (h : GoodRow w n v s) (hb : Below w.heap.size w w') : GoodRow w' n v s :=
  ⟨h.tab.below hb, h.len, h.ok, fun ad ha => ⟨(h.off ad ha).1, Nat.lt_of_lt_of_le (h.off ad ha).2 hb.size⟩⟩
theorem GoodRow.grow {w w' : World} {n : Nat} {v v' : Value} {s : Sl Int} (h : GoodRow w n v s) (hg : w.grownBy w' v.ownBlock) (hv : v'.ownBlock = v.ownBlock ∨ v'.ownBlock = some w.heap.size) : GoodRow w' n v' s :=
  ⟨tab_grown h.tab hg (fun ad ha => (h.off ad ha).1), h.len, h.ok, fun ad ha => by
    have h1 := h.off ad ha
    refine ⟨?_, Nat.lt_of_lt_of_le h1.2 hg.size⟩
    rcases hv with hv | hv
    · rw [hv]; exact h1.1
    · rw [hv]; intro e; rw [Option.some.injEq] at e; omega⟩
def Rows_ (w : World) (n : Nat) (v : Value) (S : List (Sl Int)) : Prop := ∀ s ∈ S, GoodRow w n v s
theorem Rows_.below {w w' : World} {n : Nat} {v : Value} {S : List (Sl Int)} (h : Rows_ w n v S) (hb : Below w.heap.size w w') : Rows_ w' n v S := fun s hs => (h s hs).below hb
theorem Rows_.grow {w w' : World} {n : Nat} {v v' : Value} {S : List (Sl Int)} (h : Rows_ w n v S) (hg : w.grownBy w' v.ownBlock) (hv : v'.ownBlock = v.ownBlock ∨ v'.ownBlock = some w.heap.size) : Rows_ w' n v' S := fun s hs => (h s hs).grow hg hv
theorem Rows_.add {w : World} {n : Nat} {v : Value} {S : List (Sl Int)} {s : Sl Int} (h : Rows_ w n v S) (hs : GoodRow w n v s) : Rows_ w n v (S ++ [s]) := by
  intro x hx
  rcases List.mem_append.1 hx with hx | hx
  · exact h x hx
  · rw [List.mem_singleton.1 hx]; exact hs
theorem own_lt {w : World} {base : Nat} {e : TypeId} {k : Nat} {v : Value} {R : List (List Value)} (h : Own w base e k v R) {g : Nat} (hg : v.ownBlock = some g) : g < w.heap.size := (h.own.lt g hg).2
/-- a slice that a function made after v is beside it -/
theorem goodRow_new {w w4 : World} {base n : Nat} {e e2 : TypeId} {k : Nat} {v : Value} {R : List (List Value)} {a : Option Addr} {len cap : Nat} {o : List Int} (hv : Own w base e k v R) (hO : Own w4 w.heap.size e2 1 (.slice a len cap) (o.map iC)) (hl : o.length = n) (hn : 1 ≤ n) (hok : Ok o) : GoodRow w4 n v ⟨a, len, cap, o⟩ := by
  refine ⟨hO.tab_of, hl, hok, fun ad ha => ?_⟩
  rcases hO.own.2 with ⟨_, h0'⟩ | ⟨g', cap', cur, h0, hg, hc, _⟩
  · rw [List.length_map] at h0'; omega
  · simp only [Value.slice.injEq] at h0
    simp only at ha
    rw [h0.1, Option.some.injEq] at ha
    subst ha
    refine ⟨fun hx => ?_, (Array.getElem?_eq_some_iff.1 hc).1⟩
    have := own_lt hv hx
    simp only at this
    omega

set_option maxRecDepth 100000 in
set_option maxHeartbeats 1000000 in
theorem signsClo_any (a : Option Addr) (len cap : Nat) (B : List Int) (X : Nat) (t : Int) (w : World) (hT : Tab w a len cap 1 (B.map iC)) (hX : w.cell? ⟨X, 0, none⟩ = some (.slice a len cap)) :
    Calls Try.prog 35 #[.int .i64 t, .pointer (some ⟨X, 0, none⟩)] w fun e w' => e = .returned (.bool (decide (t ∈ B))) ∧ Below w.heap.size w w' := by
  have C := Lib.hid (contains_ints a len cap B t w hT (decide (t ∈ B)) (by simp))
  clear hT
  generalize decide (t ∈ B) = d at *
  go_enter Try.func35, Try.ntmps35
  go_wp2_with fail
  refine C.out.mono ?_
  rintro e w1 ⟨rfl, hw⟩
  rw [← hw]
  clear hw
  go_wp2
  go_ret
  exact ⟨rfl, Below.refl _ _⟩
end Go.Proofs.Ytoijeafhohcbdaa
