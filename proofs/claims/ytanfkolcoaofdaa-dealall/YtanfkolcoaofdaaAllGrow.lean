/- Two slices of the call's own that grow side by side, one of them in a variable of its own (block c). For every program. -/
import Derived.Test.YtanfkolcoaofdaaOwnTwo
import Derived.Test.YtanfkolcoaofdaaRefDeal
import Derived.Deep.AppendLies
namespace Go.Proofs.Ytanfkolcoaofdaa
open Go.RowKit

structure Two (e ts : TypeId) (c : Nat) (u : Value) (v0 W : World) (vb vr : Value) (lb lr : List Int) : Prop where
  cell : W.heap[c]? = some (.cells #[u] ts (0, 0))
  ob : Own W (c + 1) e 1 vb (lb.map iC)
  ov : Own W (c + 1) e 1 vr (lr.map iC)
  ap : Apart vb vr
  below : Below c v0 W
theorem Two.symm {e ts : TypeId} {c : Nat} {u : Value} {v0 W : World} {vb vr : Value} {lb lr : List Int} (h : Two e ts c u v0 W vb vr lb lr) : Two e ts c u v0 W vr vb lr lb := ⟨h.cell, h.ov, h.ob, h.ap.symm, h.below⟩
theorem Two.lt {e ts : TypeId} {c : Nat} {u : Value} {v0 W : World} {vb vr : Value} {lb lr : List Int} (h : Two e ts c u v0 W vb vr lb lr) : c < W.heap.size := lt_of_block h.cell
theorem Two.under {e ts : TypeId} {c : Nat} {u : Value} {v0 W W' : World} {vb vr : Value} {lb lr : List Int} (h : Two e ts c u v0 W vb vr lb lr) (hb : Below W.heap.size W W') : Two e ts c u v0 W' vb vr lb lr :=
  ⟨(hb.block c h.lt).trans h.cell, h.ob.below hb, h.ov.below hb, h.ap, h.below.trans (hb.mono (Nat.le_of_lt h.lt))⟩
theorem Two.alloc {e ts : TypeId} {c : Nat} {u : Value} {v0 W : World} {vb vr : Value} {lb lr : List Int} (h : Two e ts c u v0 W vb vr lb lr) (o : Obj) : Two e ts c u v0 (W.alloc o) vb vr lb lr := h.under ((Below.refl _ _).alloc (Nat.le_refl _) _)
theorem Two.drew {e ts : TypeId} {c : Nat} {u : Value} {v0 W : World} {vb vr : Value} {lb lr : List Int} (h : Two e ts c u v0 W vb vr lb lr) : Two e ts c u v0 W.drew vb vr lb lr := h.under (Below.refl _ _).drew
/-- the variable itself is set -/
theorem Two.set {e ts : TypeId} {c : Nat} {u : Value} {v0 W : World} {vb vr : Value} {lb lr : List Int} (h : Two e ts c u v0 W vb vr lb lr) (u' : Value) : Two e ts c u' v0 (W.setCell ⟨c, 0, none⟩ u') vb vr lb lr :=
  ⟨one_setCell h.cell, h.ob.setCell (by show c < c + 1; omega) _, h.ov.setCell (by show c < c + 1; omega) _, h.ap, h.below.setCell (Nat.le_refl _) _⟩

theorem step_two {P : Program} (w : World) {ops : Array Oper} {o : Oper} {a : Act} {K : Act → World → Prop} {Q : Exit → Act → World → Prop} {E : Prop} (hgd : o.guard = none) (s x : Operand) (t : TypeId)
    (ho : o.op = .call { callee := .builtin .append, args := #[s, x], argTypes := #[t, t] })
    (e ts : TypeId) (z0 : Value) (ht : P.underlying t = some (.slice e)) (hinfo : (P.info? e).map (fun i => (i.zero, i.size, i.bytes)) = some (some z0, 1, 8)) (hzs : z0.cells.size = 1)
    (c : Nat) (u : Value) (v0 : World) (vb vr : Value) (lb lr : List Int) (hs : a.eval s = vb) (hT : Two e ts c u v0 w vb vr lb lr) (hl : lb.length ≤ 10)
    (B : Nat) (z : Int) (hx : a.eval x = .slice (some ⟨B, 0, none⟩) 1 1) (hnews : ∀ j u, [[Value.int .i64 z]].flatten[j]? = some u → w.cell? ((⟨B, 0, none⟩ : Addr).add j) = some u)
    (h : ∀ g cap w', Two e ts c u v0 w' (.slice (some ⟨g, 0, none⟩) (lb.length + 1) cap) vr (lb ++ [z]) lr → w.grownBy w' vb.ownBlock → K (a.put o.dst (.slice (some ⟨g, 0, none⟩) (lb.length + 1) cap)) w') :
    if Region.wanted o (yielded ops a.tmps) = true then Oper.wp P o a w K Q else E := by
  obtain ⟨i, hi, hz0, hz1, hz2⟩ := info_parts hinfo
  have hlen : (lb.map iC).length = lb.length := List.length_map _
  have hown := hT.ob.own
  rw [hlen] at hown
  have hlt := hT.lt
  refine step_append_lies w hgd s x t ho (c + 1) e i z0 1 8 ht hi hz0 hz1 hz2 hzs (by decide) vb lb.length (lb.map iC).flatten hs hown ⟨B, 0, none⟩ 1 1 [.int .i64 z] hx rfl (by simpa using hnews) (by simp [Value.oneCell']) (by decide) (by unfold maxLen; omega) (by omega) (by omega) _ rfl ?_
  intro g cap w' h2 h3 h4 h5
  refine h g cap w' ⟨?_, ⟨?_, ?_⟩, hT.ov.keptBy h3 hT.ap.symm.or, ?_, ?_⟩ h3
  · refine (h3.block c hlt (fun he => ?_)).trans hT.cell
    have := (hT.ob.own.lt c he.symm).1
    omega
  · rw [List.map_append, List.length_append, List.flatten_append, List.length_map]; exact h2
  · intro r hr
    obtain ⟨y, _, rfl⟩ := List.mem_map.1 hr
    rfl
  · refine hT.ap.append hT.ov (Nat.le_refl _) ?_
    rcases h4 with h4 | h4
    · exact Or.inl h4.symm
    · exact Or.inr (by rw [h4]; rfl)
  · exact hT.below.grown h3 (Nat.le_of_lt hlt) (fun j hj => by have := (hT.ob.own.lt j hj).1; omega)

/-- a literal that lies at a block of its own stays when another block grows -/
theorem lit_kept {w w' : World} {row : Option Nat} {B : Nat} {z : Int} (hg : w.grownBy w' row) (h : ∀ j u, [[Value.int .i64 z]].flatten[j]? = some u → w.cell? ((⟨B, 0, none⟩ : Addr).add j) = some u) (hlt : B < w.heap.size) (hne : some B ≠ row) :
    ∀ j u, [[Value.int .i64 z]].flatten[j]? = some u → w'.cell? ((⟨B, 0, none⟩ : Addr).add j) = some u := by
  intro j u hj
  rw [← h j u hj, addr_add]
  unfold World.cell?
  rw [hg.block B hlt hne]

end Go.Proofs.Ytanfkolcoaofdaa
