/- Rows of registers made of any numbers (RegsOrder's own closure), and how they fit. -/
import Derived.Test.YtffgoekdjcempaaRegsJoin
import Derived.Test.YtffgoekdjcempaaWithin
import Derived.Test.YtffgoekdjcempaaLit
import Derived.Test.YtffgoekdjcempaaEqualInts
namespace Go.Proofs.Ytffgoekdjcempaa
open Go.ChangeShapes Go.WideShapes Go.ChangeAt Go.RowKit
open Regs

namespace Regs
def rowN (l : List Int) (j : Nat) : Int := match l[j]? with | some y => withI y 58 | none => 0
def rowL (K : Nat) (l : List Int) : List Int := (List.range K).map (rowN l)
theorem rowL_len (K : Nat) (l : List Int) : (rowL K l).length = K := by simp [rowL]
theorem rowL_get {K j : Nat} (l : List Int) (h : j < K) : (rowL K l)[j]? = some (rowN l j) := by simp [rowL, h]
theorem rowN_bd (l : List Int) (j : Nat) : 0 ≤ rowN l j ∧ rowN l j ≤ 57 := by
  unfold rowN
  split
  · rename_i y _
    have := withI_bd y 58 (by decide)
    omega
  · omega
theorem rowL_ok {K : Nat} (h : lenR K = true) (l : List Int) : regE (rowL K l) = 0 := by
  refine regE_zero.2 ⟨by rw [rowL_len]; exact h, fun x hx => ?_⟩
  obtain ⟨j, _, rfl⟩ := List.mem_map.1 hx
  exact rowN_bd l j
theorem pair_ok {a b : List Int} (h1 : regE a = 0) (h2 : regE b = 0) (h3 : a.length = b.length) : pairE a b = 0 := pairE_zero.2 ⟨h1, h2, h3⟩
theorem join_ok {a b : List Int} (h1 : regE a = 0) (h2 : regE b = 0) (h3 : a.length = b.length) : regE (joinR a b) = 0 := by
  obtain ⟨p1, p2⟩ := regE_zero.1 h1
  obtain ⟨q1, q2⟩ := regE_zero.1 h2
  refine regE_zero.2 ⟨by rw [joinR_len h3]; exact p1, fun z hz => ?_⟩
  obtain ⟨j, hj⟩ := List.mem_iff_getElem?.1 hz
  unfold joinR at hj
  rw [List.getElem?_zipWith] at hj
  cases hx : a[j]? with
  | none => rw [hx] at hj; cases hj
  | some x =>
    cases hy : b[j]? with
    | none => rw [hx, hy] at hj; cases hj
    | some y =>
      rw [hx, hy, Option.some.injEq] at hj
      have := p2 x (List.mem_of_getElem? hx)
      have := q2 y (List.mem_of_getElem? hy)
      omega
theorem both {P Q R : Bool} (h : P = true ↔ Q = true ∧ R = true) : P = (Q && R) := by
  cases P <;> cases Q <;> cases R <;> simp_all
/-- Galois: two rows together fit under a third one just if each does -/
theorem fit_join {a b c : List Int} (h1 : a.length = b.length) (h2 : b.length = c.length) : fitR (joinR a b) c = (fitR a c && fitR b c) := by
  refine both ?_
  rw [fitR_iff (by rw [joinR_len h1]; omega), fitR_iff (by omega), fitR_iff h2]
  constructor
  · intro h
    refine ⟨fun k x z hx hz => ?_, fun k y z hy hz => ?_⟩
    · obtain ⟨y, hy⟩ : ∃ y, b[k]? = some y := ⟨_, List.getElem?_eq_getElem (by have := (List.getElem?_eq_some_iff.1 hx).1; omega)⟩
      have := h k _ z (joinR_get hx hy) hz
      omega
    · obtain ⟨x, hx⟩ : ∃ x, a[k]? = some x := ⟨_, List.getElem?_eq_getElem (by have := (List.getElem?_eq_some_iff.1 hy).1; omega)⟩
      have := h k _ z (joinR_get hx hy) hz
      omega
  · rintro ⟨h, g⟩ k m z hm hz
    obtain ⟨x, hx⟩ : ∃ x, a[k]? = some x := ⟨_, List.getElem?_eq_getElem (by have := (List.getElem?_eq_some_iff.1 hz).1; omega)⟩
    obtain ⟨y, hy⟩ : ∃ y, b[k]? = some y := ⟨_, List.getElem?_eq_getElem (by have := (List.getElem?_eq_some_iff.1 hz).1; omega)⟩
    rw [joinR_get hx hy, Option.some.injEq] at hm
    have := h k x z hx hz
    have := g k y z hy hz
    omega
theorem fit_same {a b : List Int} (h : a.length = b.length) : fitR a b = true ∧ fitR b a = true ↔ a = b := by
  rw [fitR_iff h, fitR_iff h.symm]
  constructor
  · rintro ⟨h1, h2⟩
    refine List.ext_getElem? fun k => ?_
    cases hx : a[k]? with
    | none =>
      rw [List.getElem?_eq_none_iff] at hx
      rw [List.getElem?_eq_none (by omega)]
    | some x =>
      obtain ⟨y, hy⟩ : ∃ y, b[k]? = some y := ⟨_, List.getElem?_eq_getElem (by have := (List.getElem?_eq_some_iff.1 hx).1; omega)⟩
      have := h1 k x y hx hy
      have := h2 k y x hy hx
      rw [hy, show x = y from by omega]
  · rintro rfl
    refine ⟨fun k x y hx hy => ?_, fun k x y hx hy => ?_⟩
    · rw [hx, Option.some.injEq] at hy; omega
    · rw [hx, Option.some.injEq] at hy; omega
end Regs

set_option maxRecDepth 100000 in
set_option maxHeartbeats 2000000 in
theorem rowClo_any (B K : Nat) (a : Option Addr) (len cap : Nat) (l : List Int) (w : World) (hc : w.cell? ⟨B, 0, none⟩ = some (.int .i64 (K : Int))) (hK : K ≤ 16) (h : Tab w a len cap 1 (l.map iC)) (hw : ∀ z ∈ l, wfI z) :
    Calls Try.prog 38 #[.slice a len cap, .pointer (some ⟨B, 0, none⟩)] w (RetRows w 3 1 ((rowL K l).map iC)) := by
  have hl := h.hlen
  rw [List.length_map] at hl
  have hm := h.hmax
  have hle := h.hle
  unfold maxLen at hm
  have HT := Lib.hid h
  have HL := Lib.hid hl
  have HW := Lib.hid hw
  have HI := Lib.hid (info_parts info_intR).choose_spec
  generalize (info_parts info_intR).choose = i0 at *
  obtain ⟨J, hJ⟩ : ∃ J, rowL K l = J := ⟨_, rfl⟩
  have HJ : Hid (∀ j, j < K → J[j]? = some (rowN l j)) := Lib.hid (fun j hj => by rw [← hJ]; exact rowL_get l hj)
  have HJL : Hid (J.length = K) := Lib.hid (by rw [← hJ, rowL_len])
  rw [hJ]
  clear h hl hw hJ
  go_enter Try.func38, Try.ntmps38
  go_wp2_with (at_make; refine wpList_make_full _ rfl _ _ 22 rfl w.heap.size 3 i0 (.int .i64 0) 1 Try.underlying22 HI.out.1 HI.out.2.1 HI.out.2.2.1 _ _ _ _ K rfl rfl rfl rfl (by rw [HI.out.2.2.2]; omega) (by unfold maxLen; omega) (Nat.le_refl _) ?_; intro w3 hO3 hg3)
  have hO : Own w3 w.heap.size 3 1 (.slice (some ⟨w.heap.size, 0, none⟩) K K) ((List.replicate K 0).map iC) := Own.full hO3 (made_ints K)
  have hb : Below w.heap.size w w3 := (Below.refl _ _).grown hg3 (Nat.le_refl _) (fun j hj => by cases hj)
  have HO := Lib.hid hO
  have HB3 := Lib.hid hb
  have HX0 := Lib.hid (Nat.le_refl w.heap.size)
  clear hO3 hg3 hO hb hc
  obtain ⟨X, hX⟩ : ∃ X, w.heap.size = X := ⟨_, rfl⟩
  have HXX := Lib.hid hX
  rw [hX] at HO
  try rw [hX]
  clear hX HI HX0
  go_loopg [10] K (fun q i wr => ∃ (k : Nat) (r : List Int), k + q = K ∧ i = .int .i64 k ∧ Hid (r.length = K) ∧ Hid (∀ j, k ≤ j → j < K → r[j]? = some 0) ∧ Hid (r.take k = J.take k) ∧ Hid (Own wr X 3 1 (.slice (some ⟨X, 0, none⟩) K K) (r.map iC)) ∧ Hid (Below w.heap.size w wr))
  case atStart => exact ⟨0, List.replicate K 0, by omega, rfl, Lib.hid (by simp), Lib.hid (fun j _ hj => by simp [hj]), Lib.hid rfl, HO, HB3⟩
  case round =>
    clear HO HB3
    obtain ⟨k, r, hk0, rfl, HRL, HRZ, HRT, HO, HB⟩ := hrel
    have HK := Lib.hid hk0
    have hk : k ≤ K := by omega
    clear hk0
    by_cases hlt : k < K
    · have hz := HRZ.out k (Nat.le_refl _) hlt
      obtain ⟨e0, e1, _, _⟩ := HO.out.at1 (map_get hz)
      have hJk := HJ.out k hlt
      by_cases hll : k < len
      · obtain ⟨x, hx⟩ : ∃ x, l[k]? = some x := ⟨_, List.getElem?_eq_getElem (by rw [HL.out]; exact hll)⟩
        obtain ⟨b1, o1, ha1, hbs1, c0⟩ := HT.out.one HB.out (map_get hx)
        have hra : rowN l k = withI x 58 := by unfold rowN; rw [hx]
        rw [hra] at hJk
        have HJK := Lib.hid hJk
        have HWX := Lib.hid (fun W => within_int x 58 W (wf_i64 (HW.out x (List.mem_of_getElem? hx))) (by omega) (by omega))
        generalize withI x 58 = u at *
        have HS : Hid (Own (wr.setCell ⟨X, k, none⟩ (.int .i64 u)) X 3 1 (.slice (some ⟨X, 0, none⟩) K K) ((r.set k u).map iC)) := Lib.hid (by
          have hs := HO.out.set1 (map_get hz) (.int .i64 u)
          rw [← show iC u = [Value.int .i64 u] from rfl, ← List.map_set] at hs
          exact hs)
        subst ha1
        clear hx hz hJk hra
        go_wp2_with fail
        refine (HWX.out _).mono ?_
        rintro e w5 ⟨rfl, hw5⟩
        rw [← hw5]
        clear hw5
        go_wp2_with fail
        go_roundg (K - (k + 1))
        case measure => have := HK.out; omega
        case rel =>
          exact ⟨k + 1, r.set k u, by omega, by go_num, Lib.hid (by rw [List.length_set]; exact HRL.out), Lib.hid (fun j h1 h2 => by rw [List.getElem?_set_ne (by omega)]; exact HRZ.out j (by omega) h2), Lib.hid (take_set HRT.out HJK.out (by rw [HRL.out]; exact hlt)), HS, Lib.hid (HB.out.setCell (p := ⟨X, k, none⟩) (by rw [HXX.out]; exact Nat.le_refl _) _)⟩
      · have hra : rowN l k = 0 := by unfold rowN; rw [List.getElem?_eq_none (by rw [HL.out]; omega)]
        rw [hra] at hJk
        have HJK := Lib.hid hJk
        have HZ := Lib.hid hz
        clear hz hJk hra e0 e1
        go_wp2_with fail
        go_roundg (K - (k + 1))
        case measure => have := HK.out; omega
        case rel =>
          exact ⟨k + 1, r, by omega, by go_num, HRL, Lib.hid (fun j h1 h2 => HRZ.out j (by omega) h2), Lib.hid (by rw [List.take_add_one, List.take_add_one, HRT.out, HZ.out, HJK.out]), HO, HB⟩
    · obtain rfl : k = K := by omega
      have e : r = J := by
        have := HRT.out
        rw [List.take_of_length_le (by rw [HRL.out]; exact Nat.le_refl _), List.take_of_length_le (by rw [HJL.out]; exact Nat.le_refl _)] at this
        exact this
      rw [e] at HO
      clear e
      go_wp2
      go_ret
      exact ⟨_, rfl, HO.out.base_le (by rw [HXX.out]; exact Nat.le_refl _), HB.out⟩
end Go.Proofs.Ytffgoekdjcempaa
