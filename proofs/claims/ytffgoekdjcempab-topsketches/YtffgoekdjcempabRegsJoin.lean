/- The contracts of the program's regs.Join and regs.Fit, whatever is handed in. -/
import Derived.Test.YtffgoekdjcempabRegsCheck
import Derived.Test.YtffgoekdjcempabGr13
import Derived.Deep.LoopGhost
namespace Go.Proofs.Ytffgoekdjcempab
open Go.ChangeShapes Go.WideShapes Go.ChangeAt Go.RowKit
open Regs

namespace Regs
def joinL (a b : List Int) : List Int := if pairE a b = 0 then joinR a b else []
def fitB (a b : List Int) : Bool := if pairE a b = 0 then fitR a b else false
theorem joinR_get {a b : List Int} {k : Nat} {x y : Int} (hx : a[k]? = some x) (hy : b[k]? = some y) : (joinR a b)[k]? = some (max x y) := by
  unfold joinR
  rw [List.getElem?_zipWith, hx, hy]
theorem joinR_len {a b : List Int} (h : a.length = b.length) : (joinR a b).length = a.length := by
  unfold joinR
  rw [List.length_zipWith, h, Nat.min_self]
theorem take_set {m l : List Int} {k : Nat} {x : Int} (h : m.take k = l.take k) (hx : l[k]? = some x) (hk : k < m.length) : (m.set k x).take (k + 1) = l.take (k + 1) := by
  rw [List.take_add_one, List.take_add_one, hx, List.getElem?_set_self hk, ← h, List.take_set_of_le (Nat.le_refl _)]
theorem fitR_false {a b : List Int} {k : Nat} {x y : Int} (hx : a[k]? = some x) (hy : b[k]? = some y) (h : y < x) : fitR a b = false := by
  unfold fitR
  rw [List.all_eq_false]
  exact ⟨decide (x ≤ y), List.mem_of_getElem? (i := k) (by rw [List.getElem?_zipWith, hx, hy]), by simp; omega⟩
theorem fitR_true {a b : List Int} (h : ∀ (k : Nat) (x y : Int), a[k]? = some x → b[k]? = some y → x ≤ y) : fitR a b = true := by
  unfold fitR
  rw [List.all_eq_true]
  intro c hc
  obtain ⟨k, hk⟩ := List.mem_iff_getElem?.1 hc
  rw [List.getElem?_zipWith] at hk
  cases hx : a[k]? with
  | none => rw [hx] at hk; cases hk
  | some x =>
    cases hy : b[k]? with
    | none => rw [hx, hy] at hk; cases hk
    | some y =>
      rw [hx, hy] at hk
      simp only [Option.some.injEq] at hk
      rw [← hk]
      simp only [id]
      exact decide_eq_true (h k x y hx hy)
theorem fitR_iff {a b : List Int} (hl : a.length = b.length) : fitR a b = true ↔ ∀ (k : Nat) (x y : Int), a[k]? = some x → b[k]? = some y → x ≤ y := by
  constructor
  · intro h k x y hx hy
    rcases Int.lt_or_le y x with h2 | h2
    · rw [fitR_false hx hy h2] at h; cases h
    · exact h2
  · exact fitR_true
end Regs

theorem info_intR : (Try.prog.info? 3).map (fun i => (i.zero, i.size, i.bytes)) = some (some (.int .i64 0), 1, 8) := by kernel_rfl

set_option maxRecDepth 100000 in
set_option maxHeartbeats 4000000 in
theorem regsJoin_any (a b : Option Addr) (la ca lb cb : Nat) (l m : List Int) (w : World) (h : Tab w a la ca 1 (l.map iC)) (g : Tab w b lb cb 1 (m.map iC)) :
    Calls Try.prog 39 #[.slice a la ca, .slice b lb cb] w fun e w' => ∃ v, e = .returned (.tuple #[v, .int .i64 (pairE l m)]) ∧ Own w' w.heap.size 3 1 v ((joinL l m).map iC) ∧ Below w.heap.size w w' := by
  have HC := Lib.hid (checkPair_any a b la ca lb cb l m w h g)
  by_cases hE : pairE l m = 0
  · have e2 : joinL l m = joinR l m := by unfold joinL; rw [if_pos hE]
    rw [e2, hE]
    rw [hE] at HC
    obtain ⟨E1, E2, hlm⟩ := pairE_zero.1 hE
    obtain ⟨hlr, _⟩ := regE_zero.1 E1
    obtain ⟨hp1, hp2⟩ := lenR_pos hlr
    have hl := h.hlen
    rw [List.length_map] at hl
    have hg := g.hlen
    rw [List.length_map] at hg
    obtain rfl : la = lb := by omega
    have hJl := joinR_len hlm
    rw [hl] at hp1 hp2 hJl
    have hm := h.hmax
    have hle := h.hle
    unfold maxLen at hm
    have gm := g.hmax
    have gle := g.hle
    unfold maxLen at gm
    obtain ⟨J, hJ⟩ : ∃ J, joinR l m = J := ⟨_, rfl⟩
    have HJ : Hid (∀ (k : Nat) (x y : Int), l[k]? = some x → m[k]? = some y → J[k]? = some (max x y)) := Lib.hid (fun k x y hx hy => by rw [← hJ]; exact joinR_get hx hy)
    rw [hJ] at hJl ⊢
    have HJL := Lib.hid hJl
    have HT := Lib.hid h
    have HG := Lib.hid g
    have HL := Lib.hid hl
    have HM := Lib.hid hg
    have HI := Lib.hid (info_parts info_intR).choose_spec
    generalize (info_parts info_intR).choose = i0 at *
    clear hE e2 h g hl hg hlm hlr E1 E2 hJ hJl
    go_enter Try.func39, Try.ntmps39
    go_wp2_with fail
    refine HC.out.mono ?_
    rintro e w1 ⟨rfl, hb⟩
    have HB := Lib.hid hb
    clear hb HC
    go_wp2_with (at_make; refine wpList_make_full _ rfl _ _ 53 rfl w1.heap.size 3 i0 (.int .i64 0) 1 Try.underlying53 HI.out.1 HI.out.2.1 HI.out.2.2.1 _ _ _ _ la rfl rfl rfl rfl (by rw [HI.out.2.2.2]; omega) (by unfold maxLen; omega) (Nat.le_refl _) ?_; intro w3 hO3 hg3)
    have hO : Own w3 w1.heap.size 3 1 (.slice (some ⟨w1.heap.size, 0, none⟩) la la) ((List.replicate la 0).map iC) := Own.full hO3 (made_ints la)
    have hb : Below w1.heap.size w1 w3 := (Below.refl _ _).grown hg3 (Nat.le_refl _) (fun j hj => by cases hj)
    have HO := Lib.hid hO
    have HB3 := Lib.hid (below_on HB.out hb)
    have HWB := Lib.hid HB.out.size
    clear hO3 hg3 hO hb
    obtain ⟨X, hX⟩ : ∃ X, w1.heap.size = X := ⟨_, rfl⟩
    rw [hX] at HO HWB
    try rw [hX]
    clear hX HB HI
    go_loopg [21] la (fun q i wr => ∃ (k : Nat) (r : List Int), k + q = la ∧ i = .int .i64 k ∧ Hid (r.length = la) ∧ Hid (r.take k = J.take k) ∧ Hid (Own wr X 3 1 (.slice (some ⟨X, 0, none⟩) la la) (r.map iC)) ∧ Hid (Below w.heap.size w wr))
    case atStart => exact ⟨0, List.replicate la 0, by omega, rfl, Lib.hid (by simp), Lib.hid rfl, HO, HB3⟩
    case round =>
      clear HO HB3
      obtain ⟨k, r, hk0, rfl, HRL, HRT, HO, HB⟩ := hrel
      have HK := Lib.hid hk0
      have hk : k ≤ la := by omega
      clear hk0
      by_cases hlt : k < la
      · obtain ⟨x, hx⟩ : ∃ x, l[k]? = some x := ⟨_, List.getElem?_eq_getElem (by rw [HL.out]; exact hlt)⟩
        obtain ⟨y, hy⟩ : ∃ x, m[k]? = some x := ⟨_, List.getElem?_eq_getElem (by rw [HM.out]; exact hlt)⟩
        obtain ⟨z, hz⟩ : ∃ x, r[k]? = some x := ⟨_, List.getElem?_eq_getElem (by rw [HRL.out]; exact hlt)⟩
        obtain ⟨b1, o1, ha1, hbs1, c0⟩ := HT.out.one HB.out (map_get hx)
        obtain ⟨b2, o2, ha2, hbs2, d0⟩ := HG.out.one HB.out (map_get hy)
        obtain ⟨e0, e1, _, _⟩ := HO.out.at1 (map_get hz)
        have HJX := Lib.hid (HJ.out k x y hx hy)
        have HS : Hid (∀ v, Own (wr.setCell ⟨X, k, none⟩ (.int .i64 v)) X 3 1 (.slice (some ⟨X, 0, none⟩) la la) ((r.set k v).map iC)) := Lib.hid (fun v => by
          have hs := HO.out.set1 (map_get hz) (.int .i64 v)
          rw [← show iC v = [Value.int .i64 v] from rfl, ← List.map_set] at hs
          exact hs)
        subst ha1 ha2
        clear hx hy hz
        go_wp2_with fail
        all_goals
          go_roundg (la - (k + 1))
          case measure => have := HK.out; omega
          case rel =>
            refine ⟨k + 1, r.set k _, by omega, by go_num, Lib.hid (by rw [List.length_set]; exact HRL.out), Lib.hid (take_set HRT.out ?_ (by rw [HRL.out]; exact hlt)), Lib.hid (HS.out _), Lib.hid (HB.out.setCell (p := ⟨X, k, none⟩) HWB.out _)⟩
            rw [HJX.out]
            try (congr 1; omega)
      · obtain rfl : k = la := by omega
        have e : r = J := by
          have := HRT.out
          rw [List.take_of_length_le (by rw [HRL.out]; exact Nat.le_refl _), List.take_of_length_le (by rw [HJL.out]; exact Nat.le_refl _)] at this
          exact this
        rw [e] at HO
        clear e
        go_wp2
        go_ret2
        exact ⟨_, rfl, HO.out.base_le HWB.out, HB.out⟩
  · have e2 : joinL l m = [] := by unfold joinL; rw [if_neg hE]
    rw [e2]
    have t : (pairE l m != 0) = true := by simpa using hE
    generalize pairE l m = E at *
    clear hE e2 h g
    go_enter Try.func39, Try.ntmps39
    go_wp2_with fail
    refine HC.out.mono ?_
    rintro e w1 ⟨rfl, hb⟩
    have HB := Lib.hid hb
    clear hb
    go_wp2
    go_ret2
    exact ⟨_, rfl, Own.nil _ _ _ _, HB.out⟩

end Go.Proofs.Ytffgoekdjcempab
