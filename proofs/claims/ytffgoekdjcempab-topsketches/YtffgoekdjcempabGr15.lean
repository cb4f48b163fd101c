/- Texts joined: TabFind, TabCheck, CloneInts, TabCopy, TabPut, TabJoin, TabAsk, TabAll. -/
import Derived.Test.YtffgoekdjcempabFindMath0
import Derived.Test.YtffgoekdjcempabGr6
import Derived.Deep.LoopGhost
import Derived.WalkKit
import Derived.Test.YtffgoekdjcempabGr13
import Derived.Test.YtffgoekdjcempabGr12
import Derived.Deep.DeepCutAuto
import Derived.WalkSpells
import Derived.Test.YtffgoekdjcempabGr8
/- The contracts of slices.IndexFunc and slices.ContainsFunc on a slice of ints, for a function with no captured variable that answers a test of the element and turns nothing old. -/
namespace Go.Proofs.Ytffgoekdjcempab
open Go.ChangeShapes Go.WideShapes Go.ChangeAt Go.RowKit
open Find0

set_option maxRecDepth 100000 in
set_option maxHeartbeats 1000000 in
theorem indexFunc0_any (F : Nat) (p : Int → Bool) (a : Option Addr) (len cap : Nat) (l : List Int) (w : World) (h : Tab w a len cap 1 (l.map iC))
    (hrun : ∀ (x : Int) (W : World), (callFunc F #[.int .i64 x]).run Try.prog W = .ok (.enter F #[.int .i64 x]) W)
    (hF : ∀ x ∈ l, ∀ W : World, Below w.heap.size w W → Calls Try.prog F #[.int .i64 x] W fun e w' => e = .returned (.bool (p x)) ∧ Below W.heap.size W w') :
    Calls Try.prog 90 #[.slice a len cap, .func (.func F) #[] #[]] w fun e w' => e = .returned (.int .i64 (idxF p l)) ∧ Below w.heap.size w w' := by
  have hl := h.hlen
  have hm := h.hmax
  have hle := h.hle
  rw [List.length_map] at hl
  unfold maxLen at hm
  have HT := Lib.hid h
  have HL := Lib.hid hl
  have HF := Lib.hid hF
  obtain ⟨r, hr⟩ : ∃ r, idxF p l = r := ⟨_, rfl⟩
  rw [hr]
  have HR := Lib.hid hr
  clear h hl hF hr
  go_enter Try.func90, Try.ntmps90
  go_wp2_with fail
  go_loopg [8] len (fun g i wr => ∃ k : Nat, k + g = len ∧ i = .int .i64 k ∧ Hid (∀ j, j < k → ∀ y, l[j]? = some y → p y = false) ∧ Hid (Below w.heap.size w wr))
  case atStart => exact ⟨0, by omega, rfl, Lib.hid (fun j hj => by omega), Lib.hid (Below.refl _ _)⟩
  case round =>
    obtain ⟨k, hk0, rfl, HN, HW⟩ := hrel
    have HJ := Lib.hid hk0
    have hk : k ≤ len := by omega
    clear hk0
    by_cases hlt : k < len
    · obtain ⟨x, hx⟩ : ∃ x, l[k]? = some x := ⟨_, List.getElem?_eq_getElem (by rw [HL.out]; exact hlt)⟩
      obtain ⟨b1, o1, ha, hbs, c0⟩ := HT.out.one HW.out (map_get hx)
      have HX := Lib.hid (HF.out x (List.mem_of_getElem? hx) wr HW.out)
      have HXX := Lib.hid hx
      subst ha
      clear hx HF
      by_cases hp : p x = true
      · rw [hp] at HX
        obtain rfl : r = (k : Int) := by rw [← HR.out]; exact idxF_here HXX.out hp HN.out
        clear hp
        go_wp2_with fail
        refine HX.out.mono ?_
        rintro e w1 ⟨rfl, hb⟩
        have HB := Lib.hid (below_on HW.out hb)
        clear hb
        go_wp2
        go_ret
        exact ⟨rfl, HB.out⟩
      · have hp' : p x = false := by simpa using hp
        rw [hp'] at HX
        have HN' : Hid (∀ j, j < k + 1 → ∀ y, l[j]? = some y → p y = false) := Lib.hid (fun j hj y hy => by
          by_cases hjk : j = k
          · subst hjk
            rw [HXX.out, Option.some.injEq] at hy
            rw [← hy]; exact hp'
          · exact HN.out j (by omega) y hy)
        clear hp hp'
        go_wp2_with fail
        refine HX.out.mono ?_
        rintro e w1 ⟨rfl, hb⟩
        have HB := Lib.hid (below_on HW.out hb)
        clear hb
        go_wp2_with fail
        go_roundg (len - (k + 1))
        case measure => have := HJ.out; omega
        case rel => exact ⟨k + 1, by omega, by go_num, HN', HB⟩
    · obtain rfl : k = len := by omega
      obtain rfl : r = -1 := by rw [← HR.out]; exact (idxF_none HL.out HN.out).1
      have HB := HW
      go_wp2
      go_ret
      exact ⟨rfl, HB.out⟩

set_option maxRecDepth 100000 in
set_option maxHeartbeats 1000000 in
theorem containsFunc0_any (F : Nat) (p : Int → Bool) (a : Option Addr) (len cap : Nat) (l : List Int) (w : World) (h : Tab w a len cap 1 (l.map iC))
    (hrun : ∀ (x : Int) (W : World), (callFunc F #[.int .i64 x]).run Try.prog W = .ok (.enter F #[.int .i64 x]) W)
    (hF : ∀ x ∈ l, ∀ W : World, Below w.heap.size w W → Calls Try.prog F #[.int .i64 x] W fun e w' => e = .returned (.bool (p x)) ∧ Below W.heap.size W w') :
    Calls Try.prog 71 #[.slice a len cap, .func (.func F) #[] #[]] w fun e w' => e = .returned (.bool (l.any p)) ∧ Below w.heap.size w w' := by
  have HC := Lib.hid (indexFunc0_any F p a len cap l w h hrun hF)
  have HD := Lib.hid (idxF_le p l)
  clear h hF hrun
  generalize idxF p l = i at *
  go_enter Try.func71, Try.ntmps71
  go_wp2_with fail
  refine HC.out.mono ?_
  rintro e w1 ⟨rfl, hb⟩
  go_wp2
  go_ret
  exact ⟨by rw [← HD.out]; rfl, hb⟩
end Go.Proofs.Ytffgoekdjcempab

/- The contracts of the program's table.isOutside, table.Check and table.column. -/
namespace Go.Proofs.Ytffgoekdjcempab
open Go.ChangeShapes Go.WideShapes Go.ChangeAt Go.RowKit
open Tbl

namespace Tbl
theorem two_cells {w : World} {b : Nat} {x : Int} {v : Value} {t : TypeId} (h : w.heap[b]? = some (.cells #[.int .i64 x, v] t (0, 0))) :
    (w.cell? ⟨b, 0, none⟩ = some (.int .i64 x) ∧ w.cell? ⟨b, 1, none⟩ = some v) ∧ w.frozen? ⟨b, 0, none⟩ = false ∧ w.frozen? ⟨b, 1, none⟩ = false :=
  ⟨⟨cell_blk h rfl, cell_blk h rfl⟩, frozen_blk h, frozen_blk h⟩
theorem two_set {w : World} {b : Nat} {x x' : Int} {v v' : Value} {t : TypeId} (h : w.heap[b]? = some (.cells #[.int .i64 x, v] t (0, 0))) :
    ((w.setCell ⟨b, 0, none⟩ (.int .i64 x')).setCell ⟨b, 1, none⟩ v').heap[b]? = some (.cells #[.int .i64 x', v'] t (0, 0)) := by
  have h0 := heap_setCell_same w b 0 _ _ (.int .i64 x') h
  have h1 := heap_setCell_same _ b 1 _ _ v' h0
  rw [h1]
  rfl
theorem kept {w1 w2 : World} {b : Nat} {o : Obj} (hb : Below w1.heap.size w1 w2) (h : w1.heap[b]? = some o) : w2.heap[b]? = some o :=
  (hb.block b (Array.getElem?_eq_some_iff.1 h).1).trans h
theorem blk_else {w : World} {X : Nat} {a : Addr} {v : Value} {o : Obj} (h : w.heap[X]? = some o) (hne : X ≠ a.block) : (w.setCell a v).heap[X]? = some o := (Below.heap_setCell _ _ _ _ hne).trans h
end Tbl

set_option maxRecDepth 100000 in
theorem isOutside_any (n : Int) (w : World) : Calls Try.prog 53 #[.int .i64 n] w fun e w' => e = .returned (.bool (outB n)) ∧ w' = w := by
  unfold outB
  by_cases h1 : n < 0
  · have t : decide (n < 0) = true := decide_eq_true h1
    rw [t, Bool.true_or]
    go_enter Try.func53, Try.ntmps53
    go_wp2
    go_ret
    exact ⟨rfl, rfl⟩
  · have t : decide (n < 0) = false := decide_eq_false h1
    rw [t, Bool.false_or]
    have h1' : 0 ≤ n := by omega
    clear h1
    go_enter Try.func53, Try.ntmps53
    go_wp2
    go_ret
    exact ⟨rfl, rfl⟩

set_option maxRecDepth 100000 in
set_option maxHeartbeats 2000000 in
theorem tcheck_any (W : Int) (a : Option Addr) (len cap : Nat) (R : List (List Int)) (P : Nat → Prop) (w : World) (hT : TTx w P a len cap R) :
    Calls Try.prog 52 #[.agg #[.int .i64 W, .slice a len cap]] w fun e w' => e = .returned (.int .i64 (tabE W R)) ∧ Below w.heap.size w w' := by
  have hl := hT.len
  have hm := hT.max
  have HB := Lib.hid (show Below w.heap.size w (w.alloc (.cells #[.int .i64 W, .slice a len cap] 27)) from (Below.refl _ _).alloc (Nat.le_refl _) _)
  by_cases h1 : W < 1
  · rw [tabE_arg (Or.inl h1)]
    go_enter Try.func52, Try.ntmps52
    go_wp2
    go_ret
    exact ⟨rfl, HB.out⟩
  have h1' : 1 ≤ W := by omega
  by_cases h2 : 32 < W
  · rw [tabE_arg (Or.inr (Or.inl h2))]
    clear h1
    go_enter Try.func52, Try.ntmps52
    go_wp2
    go_ret
    exact ⟨rfl, HB.out⟩
  have h2' : W ≤ 32 := by omega
  by_cases h3 : len < 1
  · rw [tabE_arg (Or.inr (Or.inr (Or.inl (by omega))))]
    have h3' : (len : Int) < 1 := by omega
    clear h1 h2 h3
    go_enter Try.func52, Try.ntmps52
    go_wp2
    go_ret
    exact ⟨rfl, HB.out⟩
  have h3' : 1 ≤ len := by omega
  by_cases h4 : 4 < len
  · rw [tabE_arg (Or.inr (Or.inr (Or.inr (by omega))))]
    have h4' : (4 : Int) < (len : Int) := by omega
    clear h1 h2 h3
    go_enter Try.func52, Try.ntmps52
    go_wp2
    go_ret
    exact ⟨rfl, HB.out⟩
  have h4' : len ≤ 4 := by omega
  rw [tabE_rows h1' h2' (by omega) (by omega)]
  obtain ⟨r, hr⟩ : ∃ r, rowsE W R = r := ⟨_, rfl⟩
  rw [hr]
  have HR := Lib.hid hr
  have HT := Lib.hid hT
  have HL := Lib.hid hl
  have HX := Lib.hid (MapKept.heap_alloc w (.cells #[.int .i64 W, .slice a len cap] 27)).1
  obtain ⟨v0, hv0⟩ : ∃ v, w.alloc (.cells #[.int .i64 W, .slice a len cap] 27) = v := ⟨_, rfl⟩
  rw [hv0] at HB HX
  have HV := Lib.hid hv0
  clear hr hT hl hv0 h1 h2 h3 h4
  go_enter Try.func52, Try.ntmps52
  go_upto_region 1 with fail
  rw [HV.out]
  obtain ⟨X, hX⟩ : ∃ X, w.heap.size = X := ⟨_, rfl⟩
  rw [hX] at HX ⊢
  have HXX := Lib.hid hX
  clear HV hX
  obtain ⟨⟨c0, c1⟩, _⟩ := two_cells HX.out
  go_wp2_with fail
  clear c0 c1
  go_loopg [28] len (fun g i wr => ∃ k : Nat, k + g = len ∧ i = .int .i64 k ∧ Hid (∀ j, j < k → ∀ q, R[j]? = some q → rowE W q = 0) ∧ Hid (Below v0.heap.size v0 wr))
  case atStart => exact ⟨0, by omega, rfl, Lib.hid (fun j hj => by omega), Lib.hid (Below.refl _ _)⟩
  case round =>
    obtain ⟨k, hk0, rfl, HN, HW⟩ := hrel
    have HJ := Lib.hid hk0
    have hk : k ≤ len := by omega
    clear hk0
    have HBW := Lib.hid (below_on HB.out HW.out)
    by_cases hlt : k < len
    · obtain ⟨q, hq⟩ : ∃ x, R[k]? = some x := ⟨_, List.getElem?_eq_getElem (by rw [HL.out]; exact hlt)⟩
      obtain ⟨b1, o1, qa, qn, qc, ha, hbs, c0, hTq, hqn, hqc, hqm⟩ := HT.out.row HBW.out hq
      obtain ⟨⟨d0, d1⟩, _⟩ := two_cells (kept HW.out HX.out)
      have HQ := Lib.hid hq
      have HTQ := Lib.hid hTq
      have HQN := Lib.hid hqn
      subst ha
      clear hq hTq hqn
      by_cases hw : (qn : Int) ≠ W
      · have tw : ((qn : Int) != W) = true := by simpa using hw
        obtain rfl : r = 7 := by
          rw [← HR.out]
          have e7 : rowE W q = 7 := rowE_len (by rw [HQN.out]; exact hw)
          rw [rowsE_here HQ.out (by rw [e7]; decide) HN.out, e7]
        clear hw
        go_wp2
        go_ret
        exact ⟨rfl, HBW.out⟩
      · obtain rfl : W = (qn : Int) := by omega
        have tw : ((qn : Int) != (qn : Int)) = false := by simp
        clear hw
        have HC := Lib.hid (containsFunc0_any 53 outB qa qn qc q wr HTQ.out (fun _ _ => rfl) (fun x _ W _ => (isOutside_any x W).mono (by rintro e w' ⟨rfl, rfl⟩; exact ⟨rfl, Below.refl _ _⟩)))
        cases hany : q.any outB
        · rw [hany] at HC
          have HN' : Hid (∀ j, j < k + 1 → ∀ y, R[j]? = some y → rowE (qn : Int) y = 0) := Lib.hid (fun j hj y hy => by
            by_cases hjk : j = k
            · subst hjk
              rw [HQ.out, Option.some.injEq] at hy
              rw [← hy]; exact rowE_ok (by rw [HQN.out]) hany
            · exact HN.out j (by omega) y hy)
          clear hany
          go_wp2_with fail
          refine HC.out.mono ?_
          rintro e w1 ⟨rfl, hb⟩
          have HW1 := Lib.hid (below_on HW.out hb)
          clear hb
          go_wp2_with fail
          go_roundg (len - (k + 1))
          case measure => have := HJ.out; omega
          case rel => exact ⟨k + 1, by omega, by go_num, HN', HW1⟩
        · rw [hany] at HC
          obtain rfl : r = 1 := by
            rw [← HR.out]
            have e7 : rowE (qn : Int) q = 1 := rowE_out (by rw [HQN.out]) hany
            rw [rowsE_here HQ.out (by rw [e7]; decide) HN.out, e7]
          clear hany
          go_wp2_with fail
          refine HC.out.mono ?_
          rintro e w1 ⟨rfl, hb⟩
          have HW1 := Lib.hid (below_on HBW.out hb)
          clear hb
          go_wp2
          go_ret
          exact ⟨rfl, HW1.out⟩
    · obtain rfl : k = len := by omega
      obtain rfl : r = 0 := by
        rw [← HR.out]
        exact rowsE_none (fun j q hq => HN.out j (by have := (List.getElem?_eq_some_iff.1 hq).1; rw [HL.out] at this; exact this) q hq)
      go_wp2
      go_ret
      exact ⟨rfl, HBW.out⟩

set_option maxRecDepth 100000 in
set_option maxHeartbeats 1000000 in
theorem column_any (s : Nat) (v : Value) (x : Int) (i : Nat) (h1 : 1 ≤ s) (h2 : s ≤ 32) (hi : i ≤ 4) (a : Option Addr) (len cap : Nat) (hv : v = .slice a len cap) (w : World) :
    Calls Try.prog 55 #[.agg #[.int .i64 s, v], .int .i64 x, .int .i64 i] w fun e w' => e = .returned (.int .i64 (colN s x i)) ∧ Below w.heap.size w w' := by
  subst hv
  have HB := Lib.hid (show Below w.heap.size w (w.alloc (.cells #[.int .i64 s, .slice a len cap] 27)) from (Below.refl _ _).alloc (Nat.le_refl _) _)
  have HX := Lib.hid (MapKept.heap_alloc w (.cells #[.int .i64 s, .slice a len cap] 27)).1
  obtain ⟨v0, hv0⟩ : ∃ v, w.alloc (.cells #[.int .i64 s, .slice a len cap] 27) = v := ⟨_, rfl⟩
  rw [hv0] at HB HX
  have HV := Lib.hid hv0
  have hA := arg_col (x := x) (i := (i : Int) + 1) (j := i) rfl
  rw [show IntKind.u64.wrap ((i : Int) + 1) = (i : Int) + 1 from by rw [IntKind.wrap_u64]; omega] at hA
  have HA := Lib.hid hA
  have HM := Lib.hid (fun W => mix_any (argN x i) (argN_lt x i) W)
  have hZ := col_walk (x := x) (j := i) h1 h2
  have HZ := Lib.hid hZ
  have HZ2 : Hid (wrap64 (((MixMath.mixN (argN x i) : Nat) : Int) % (s : Int)) = ((colN s x i : Nat) : Int)) := Lib.hid (by
    have h := colN_lt (x := x) (i := i) h1
    rw [← Int.natCast_emod, ← colN_def]
    unfold wrap64
    omega)
  have hws : ¬ (IntKind.u64.wrap (s : Int) = 0) := by rw [IntKind.wrap_u64]; omega
  clear hv0 hA hZ
  go_enter Try.func55, Try.ntmps55
  go_upto_region 1 with fail
  rw [HV.out]
  obtain ⟨X, hX⟩ : ∃ X, w.heap.size = X := ⟨_, rfl⟩
  rw [hX] at HX ⊢
  have HXX := Lib.hid hX
  obtain ⟨⟨c0, c1⟩, _⟩ := two_cells HX.out
  clear HV hX
  go_wp2_with fail
  rw [HA.out]
  refine (HM.out _).mono ?_
  rintro e w5 ⟨rfl, hw5⟩
  rw [← hw5]
  clear hw5
  go_wp2
  go_ret
  first
  | exact ⟨ret_int HZ.out, HB.out⟩
  | exact ⟨ret_int HZ2.out, HB.out⟩
end Go.Proofs.Ytffgoekdjcempab

/- The contract of slices.Clone on slices of int: a slice of its own with the same elements. Condition: it takes at most 2^47 bytes. -/
namespace Go.Proofs.Ytffgoekdjcempab
open Go.ChangeShapes Go.WideShapes Go.ChangeAt Go.RowKit

set_option maxRecDepth 100000 in
set_option maxHeartbeats 1000000 in
theorem clone_ints (a : Option Addr) (len cap : Nat) (l : List Int) (w : World) (h : Tab w a len cap 1 (l.map iC)) (hbig : len * 8 ≤ 140737488355328) :
    Calls Try.prog 59 #[.slice a len cap] w (RetRows w 3 1 (l.map iC)) := by
  have e0 := h.hlen
  cases a with
  | none =>
    have hn : ∀ w : World, (binOp .eql 53 (.slice none len cap) (.slice none 0 0)).run Try.prog w = .ok (.bool true) w := fun w => Lib.run_eql_slice_nil (P := Try.prog) w 53 3 none len cap 0 0 Try.underlying53
    obtain ⟨hz, hR⟩ := h.nil_of
    rw [hR]
    clear hR e0 hz
    go_enter Try.func59, Try.ntmps59
    go_wp2
    go_ret
    exact ⟨_, rfl, Own.nil _ _ _ _, Below.refl _ _⟩
  | some ad =>
    have hn : ∀ w : World, (binOp .eql 53 (.slice (some ad) len cap) (.slice none 0 0)).run Try.prog w = .ok (.bool false) w := fun w => Lib.run_eql_slice_nil (P := Try.prog) w 53 3 (some ad) len cap 0 0 Try.underlying53
    have HE := Lib.hid e0
    clear e0
    go_enter Try.func59, Try.ntmps59
    go_wp2_with ((at_builtin; refine wpList_append_rows _ rfl _ _ 53 rfl w.heap.size 3 _ 1 8 Try.underlying53 info_int rfl (by decide) _ [] rfl (Own.empty w 3 1) ad len cap (l.map iC) HE.out rfl (rows_of iC_len l) (h.flat ((Below.refl _ _).alloc (Nat.le_refl _) _) (by decide) (rows_of iC_len l)) (one_of iC_one l) (by simp; omega) (by decide) (by simp) ?_; intro v' w1 hO1 hg1))
    go_ret
    exact ⟨_, rfl, hO1, (Own.empty w 3 1).under ((Below.refl _ _).alloc (Nat.le_refl _) _) (Nat.le_refl _) (by simp) hg1⟩

end Go.Proofs.Ytffgoekdjcempab

/- The contract of the program's table.copyRows: rows of its own. -/
namespace Go.Proofs.Ytffgoekdjcempab
open Go.ChangeShapes Go.WideShapes Go.ChangeAt Go.RowKit
open Tbl

theorem info_slints : (Try.prog.info? 53).map (fun i => (i.zero, i.size, i.bytes)) = some (some (.slice none 0 0), 1, 24) := by kernel_rfl

namespace Tbl
theorem grid_split {l : List (Value × List Int)} {R : List (List Int)} {i n : Nat} (hl : l.length = i) (hi : i < n) : l ++ List.replicate (n - i) ((Value.slice none 0 0), ([] : List Int)) = l ++ (Value.slice none 0 0, []) :: List.replicate (n - (i + 1)) ((Value.slice none 0 0), ([] : List Int)) := by
  rw [show n - i = (n - (i + 1)) + 1 from by omega, List.replicate_succ]
end Tbl

set_option maxRecDepth 100000 in
set_option maxHeartbeats 2000000 in
theorem copyRows_any (a : Option Addr) (len cap : Nat) (R : List (List Int)) (P : Nat → Prop) (w : World) (hT : TTx w P a len cap R) (h1 : 1 ≤ len) (h4 : len ≤ 4) (h32 : ∀ r ∈ R, r.length ≤ 32) :
    Calls Try.prog 54 #[.slice a len cap] w fun e w' => ∃ (g c : Nat) (l : List (Value × List Int)), e = .returned (.slice (some ⟨g, 0, none⟩) len c) ∧ Grid w' w.heap.size (.slice (some ⟨g, 0, none⟩) len c) l ∧ l.map (fun p => p.2) = R ∧ Below w.heap.size w w' := by
  obtain ⟨i0, hi, hz0, hz1, hz2⟩ := info_parts info_slints
  have HI := Lib.hid (And.intro hi (And.intro hz0 (And.intro hz1 hz2)))
  have hl := hT.len
  have HL := Lib.hid hl
  have HT := Lib.hid hT
  have H32 := Lib.hid h32
  clear hi hz0 hz1 hz2 hl hT h32
  go_enter Try.func54, Try.ntmps54
  go_wp2_with (at_make; refine wpList_make_full _ rfl _ _ 25 rfl w.heap.size 53 i0 (.slice none 0 0) 1 Try.underlying25 HI.out.1 HI.out.2.1 HI.out.2.2.1 _ _ _ _ len rfl rfl rfl rfl (by rw [HI.out.2.2.2]; omega) (by unfold maxLen; omega) (Nat.le_refl _) ?_; intro w3 hO3 hg3)
  have hG := Grid.made hO3
  have hb3 : Below w.heap.size w w3 := (Below.refl _ _).grown hg3 (Nat.le_refl _) (fun j hj => by cases hj)
  have HG := Lib.hid hG
  have HB3 := Lib.hid hb3
  clear hO3 hg3 hG hb3 HI
  go_wp2_with fail
  go_loopg [11] len (fun n i wr => ∃ (k : Nat) (l : List (Value × List Int)), k + n = len ∧ i = .int .i64 k ∧ Hid (l.length = k ∧ l.map (fun p => p.2) = R.take k) ∧ Hid (Grid wr w.heap.size (.slice (some ⟨w.heap.size, 0, none⟩) len len) (l ++ List.replicate (len - k) ((Value.slice none 0 0), ([] : List Int)))) ∧ Hid (Below w.heap.size w wr))
  case atStart => exact ⟨0, [], by omega, rfl, Lib.hid ⟨rfl, rfl⟩, by simpa using HG, HB3⟩
  case round =>
    clear HG HB3
    obtain ⟨k, l, hk0, rfl, HLK, HG, HW⟩ := hrel
    have HJ := Lib.hid hk0
    have hk : k ≤ len := by omega
    clear hk0
    by_cases hlt : k < len
    · obtain ⟨q, hq⟩ : ∃ x, R[k]? = some x := ⟨_, List.getElem?_eq_getElem (by rw [HL.out]; exact hlt)⟩
      obtain ⟨b1, o1, qa, qn, qc, ha, hbs, c0, hTq, hqn, hqc, hqm⟩ := HT.out.row HW.out hq
      have hq32 := H32.out q (List.mem_of_getElem? hq)
      have hsp := grid_split (R := R) HLK.out.1 hlt
      have hG2 := HG.out
      rw [hsp] at hG2
      have HG2 := Lib.hid hG2
      have HC := Lib.hid (clone_ints qa qn qc q wr hTq (by omega))
      have HQ := Lib.hid hq
      obtain ⟨wo, hwo⟩ : ∃ wo, wo = wr := ⟨_, rfl⟩
      subst hwo
      subst ha
      clear hq hTq hqn hsp hG2 HG hq32
      go_wp2_with fail
      refine HC.out.mono ?_
      rintro e w1 ⟨u, rfl, hO, hb⟩
      obtain ⟨ua, uc, rfl, _⟩ := hO.tab
      generalize (q.map iC).length = un at *
      have hg1 := HG2.out.put hO hb
      rw [HLK.out.1] at hg1
      have hw1 := (below_on HW.out hb).setCell (p := ⟨w.heap.size, k, none⟩) (Nat.le_refl _) (.slice ua un uc)
      have hat := (HG2.out.below hb).at_ (i := l.length) (p := (.slice none 0 0, [])) (by rw [List.getElem?_append_right (Nat.le_refl _)]; simp)
      rw [HLK.out.1] at hat
      obtain ⟨d0, d1, _, _⟩ := hat
      have HG3 := Lib.hid hg1
      have HW1 := Lib.hid hw1
      clear hO hb hg1 hw1 HC HG2
      go_wp2_with fail
      go_roundg (len - (k + 1))
      case measure => have := HJ.out; omega
      case rel =>
        refine ⟨k + 1, l ++ [(.slice ua un uc, q)], by omega, by go_num, Lib.hid ⟨by rw [List.length_append, HLK.out.1]; rfl, ?_⟩, ?_, HW1⟩
        · rw [List.map_append, HLK.out.2, List.take_add_one, HQ.out]; rfl
        · rw [List.append_assoc]; exact HG3
    · obtain rfl : k = len := by omega
      have hG2 := HG.out
      rw [Nat.sub_self, List.replicate_zero, List.append_nil] at hG2
      have hlr := HLK.out.2
      rw [List.take_of_length_le (by rw [HL.out]; exact Nat.le_refl _)] at hlr
      have HG2 := Lib.hid hG2
      have HLR := Lib.hid hlr
      clear hG2 hlr
      go_wp2
      go_ret
      exact ⟨_, _, _, rfl, HG2.out, HLR.out, HW.out⟩
end Go.Proofs.Ytffgoekdjcempab

/- The contract of the program's table.Put. -/
namespace Go.Proofs.Ytffgoekdjcempab
open Go.ChangeShapes Go.WideShapes Go.ChangeAt Go.RowKit
open Tbl

namespace Tbl
theorem zero_two {w : World} {b : Nat} {t : TypeId} (h : w.heap[b]? = some (.cells #[.int .i64 0, .slice none 0 0] t (0, 0))) (x : Int) (v : Value) :
    ((w.setCell ⟨b, 0, none⟩ (.int .i64 x)).setCell ⟨b, 1, none⟩ v).cell? ⟨b, 0, none⟩ = some (.int .i64 x) ∧ ((w.setCell ⟨b, 0, none⟩ (.int .i64 x)).setCell ⟨b, 1, none⟩ v).cell? ⟨b, 1, none⟩ = some v := (two_cells (two_set (x' := x) (v' := v) h)).1
theorem below_two {w0 w : World} (h : Below w0.heap.size w0 w) {b : Nat} (hb : w0.heap.size ≤ b) (x v : Value) : Below w0.heap.size w0 ((w.setCell ⟨b, 0, none⟩ x).setCell ⟨b, 1, none⟩ v) :=
  (h.setCell (p := ⟨b, 0, none⟩) hb x).setCell (p := ⟨b, 1, none⟩) hb v
theorem list_at {α : Type} {l : List α} {k : Nat} {p : α} (h : l[k]? = some p) : l = l.take k ++ p :: l.drop (k + 1) := by
  have hk := (List.getElem?_eq_some_iff.1 h).1
  rw [← (List.getElem?_eq_some_iff.1 h).2, ← List.drop_eq_getElem_cons hk, List.take_append_drop]
theorem boxes_new (w : World) (o p : Obj) : ((w.alloc o).alloc p).heap[w.heap.size]? = (w.alloc o).heap[w.heap.size]? := Below.heap_alloc _ _ _ (by simp)
theorem boxes_snd (w : World) (o p : Obj) : ((w.alloc o).alloc p).heap[w.heap.size + 1]? = ((w.alloc o).alloc p).heap[(w.alloc o).heap.size]? := by simp
end Tbl

set_option maxRecDepth 100000 in
set_option maxHeartbeats 2000000 in
theorem tput_bad (W : Int) (x n : Int) (a : Option Addr) (len cap : Nat) (R : List (List Int)) (P : Nat → Prop) (w : World) (hT : TTx w P a len cap R) (hE : tabE W R ≠ 0) :
    Calls Try.prog 12 #[.agg #[.int .i64 W, .slice a len cap], .int .i64 x, .int .i64 n] w fun e w' => e = .returned (.tuple #[.agg #[.int .i64 0, .slice none 0 0], .int .i64 (tabE W R)]) ∧ Below w.heap.size w w' := by
  have hb0 : Below w.heap.size w ((w.alloc (.cells #[.int .i64 W, .slice a len cap] 27)).alloc (.cells #[.int .i64 0, .slice none 0 0] 27)) := ((Below.refl _ _).alloc (Nat.le_refl _) _).alloc (by simp) _
  have k1 : ((w.alloc (.cells #[.int .i64 W, .slice a len cap] 27)).alloc (.cells #[.int .i64 0, .slice none 0 0] 27)).heap[w.heap.size]? = some (.cells #[.int .i64 W, .slice a len cap] 27 (0, 0)) := (boxes_new _ _ _).trans (MapKept.heap_alloc w _).1
  have k2 : ((w.alloc (.cells #[.int .i64 W, .slice a len cap] 27)).alloc (.cells #[.int .i64 0, .slice none 0 0] 27)).heap[w.heap.size + 1]? = some (.cells #[.int .i64 0, .slice none 0 0] 27 (0, 0)) := (boxes_snd _ _ _).trans (MapKept.heap_alloc _ _).1
  obtain ⟨v0, hv0⟩ : ∃ v, (w.alloc (.cells #[.int .i64 W, .slice a len cap] 27)).alloc (.cells #[.int .i64 0, .slice none 0 0] 27) = v := ⟨_, rfl⟩
  rw [hv0] at hb0 k1 k2
  have HC := Lib.hid (tcheck_any W a len cap R P v0 (hT.below hb0))
  have t : (tabE W R != 0) = true := by simpa using hE
  clear hE
  generalize tabE W R = E at *
  have HV := Lib.hid hv0
  have HB0 := Lib.hid hb0
  have K1 := Lib.hid k1
  have K2 := Lib.hid k2
  clear hT hv0 hb0 k1 k2
  go_enter Try.func12, Try.ntmps12
  go_upto_region 1 with fail
  rw [HV.out]
  obtain ⟨X, hX⟩ : ∃ X, w.heap.size = X := ⟨_, rfl⟩
  rw [hX] at K1 K2 ⊢
  have HX := Lib.hid hX
  clear HV hX
  obtain ⟨⟨a0, a1⟩, _⟩ := two_cells K1.out
  go_wp2_with fail
  clear a0 a1
  refine HC.out.mono ?_
  rintro e w1 ⟨rfl, hb1⟩
  replace K2 := Lib.hid (kept hb1 K2.out)
  have hz := zero_two K2.out 0 (.slice none 0 0)
  have hbz := below_two (below_on HB0.out hb1) (b := X + 1) (by rw [← HX.out]; omega) (.int .i64 0) (.slice none 0 0)
  obtain ⟨⟨c0, c1⟩, f0, f1⟩ := two_cells K2.out
  clear hb1 HC HB0
  go_wp2_with fail
  obtain ⟨z0, z1⟩ := hz
  generalize ((w1.setCell { block := X + 1, off := 0 } (Value.int IntKind.i64 0)).setCell { block := X + 1, off := 1 } (Value.slice none 0 0)) = w3 at *
  clear c0 c1 f0 f1
  try simp only [Exit.inBlock, Exit.then]
  refine bodyPost_ret (by simp [results, Try.results12, go_sem, z0, z1, Result.andThen]; try rfl) rfl ?_
  exact ⟨rfl, hbz⟩

set_option maxRecDepth 100000 in
set_option maxHeartbeats 2000000 in
theorem tput_arg (s : Nat) (x n : Int) (a : Option Addr) (len cap : Nat) (R : List (List Int)) (P : Nat → Prop) (w : World) (hT : TTx w P a len cap R) (hE : tabE s R = 0) (hn : outB n = true) :
    Calls Try.prog 12 #[.agg #[.int .i64 s, .slice a len cap], .int .i64 x, .int .i64 n] w fun e w' => e = .returned (.tuple #[.agg #[.int .i64 0, .slice none 0 0], .int .i64 1]) ∧ Below w.heap.size w w' := by
  have hb0 : Below w.heap.size w ((w.alloc (.cells #[.int .i64 s, .slice a len cap] 27)).alloc (.cells #[.int .i64 0, .slice none 0 0] 27)) := ((Below.refl _ _).alloc (Nat.le_refl _) _).alloc (by simp) _
  have k1 : ((w.alloc (.cells #[.int .i64 s, .slice a len cap] 27)).alloc (.cells #[.int .i64 0, .slice none 0 0] 27)).heap[w.heap.size]? = some (.cells #[.int .i64 s, .slice a len cap] 27 (0, 0)) := (boxes_new _ _ _).trans (MapKept.heap_alloc w _).1
  have k2 : ((w.alloc (.cells #[.int .i64 s, .slice a len cap] 27)).alloc (.cells #[.int .i64 0, .slice none 0 0] 27)).heap[w.heap.size + 1]? = some (.cells #[.int .i64 0, .slice none 0 0] 27 (0, 0)) := (boxes_snd _ _ _).trans (MapKept.heap_alloc _ _).1
  obtain ⟨v0, hv0⟩ : ∃ v, (w.alloc (.cells #[.int .i64 s, .slice a len cap] 27)).alloc (.cells #[.int .i64 0, .slice none 0 0] 27) = v := ⟨_, rfl⟩
  rw [hv0] at hb0 k1 k2
  have hC := tcheck_any s a len cap R P v0 (hT.below hb0)
  rw [hE] at hC
  have HC := Lib.hid hC
  have hO := fun W => isOutside_any n W
  rw [hn] at hO
  have HO := Lib.hid hO
  have HV := Lib.hid hv0
  have HB0 := Lib.hid hb0
  have K1 := Lib.hid k1
  have K2 := Lib.hid k2
  clear hT hv0 hb0 k1 k2 hC hE hO hn
  go_enter Try.func12, Try.ntmps12
  go_upto_region 1 with fail
  rw [HV.out]
  obtain ⟨X, hX⟩ : ∃ X, w.heap.size = X := ⟨_, rfl⟩
  rw [hX] at K1 K2 ⊢
  have HX := Lib.hid hX
  clear HV hX
  obtain ⟨⟨a0, a1⟩, _⟩ := two_cells K1.out
  go_wp2_with fail
  clear a0 a1
  refine HC.out.mono ?_
  rintro e w1 ⟨rfl, hb1⟩
  replace K2 := Lib.hid (kept hb1 K2.out)
  have HB1 := Lib.hid (below_on HB0.out hb1)
  clear hb1 HC HB0
  go_wp2_with fail
  refine (HO.out _).mono ?_
  rintro e w2 ⟨rfl, hw2⟩
  rw [hw2]
  clear hw2 HO
  have hz := zero_two K2.out 0 (.slice none 0 0)
  have hbz := below_two HB1.out (b := X + 1) (by rw [← HX.out]; omega) (.int .i64 0) (.slice none 0 0)
  obtain ⟨⟨c0, c1⟩, f0, f1⟩ := two_cells K2.out
  go_wp2_with fail
  obtain ⟨z0, z1⟩ := hz
  generalize ((w1.setCell { block := X + 1, off := 0 } (Value.int IntKind.i64 0)).setCell { block := X + 1, off := 1 } (Value.slice none 0 0)) = w3 at *
  clear c0 c1 f0 f1
  try simp only [Exit.inBlock, Exit.then]
  refine bodyPost_ret (by simp [results, Try.results12, go_sem, z0, z1, Result.andThen]; try rfl) rfl ?_
  exact ⟨rfl, hbz⟩

set_option maxRecDepth 100000 in
set_option maxHeartbeats 4000000 in
theorem tput_grid (s : Nat) (x n : Int) (a : Option Addr) (len cap : Nat) (R : List (List Int)) (P : Nat → Prop) (w : World) (hT : TTx w P a len cap R) (hG : GoodT s R) (hn1 : 0 ≤ n) (hn2 : n ≤ 1000000000000) :
    Calls Try.prog 12 #[.agg #[.int .i64 s, .slice a len cap], .int .i64 x, .int .i64 n] w fun e w' => ∃ (S : Int) (a' : Option Addr) (l' c' : Nat) (R' : List (List Int)), e = .returned (.tuple #[.agg #[.int .i64 S, .slice a' l' c'], .int .i64 (tooE (putR s x n R))]) ∧ (tooE (putR s x n R) = 0 ∧ S = s ∧ R' = putR s x n R ∨ tooE (putR s x n R) ≠ 0 ∧ S = 0 ∧ R' = []) ∧ GT w' w.heap.size a' l' c' R' ∧ Below w.heap.size w w' := by
  have hb0 : Below w.heap.size w ((w.alloc (.cells #[.int .i64 s, .slice a len cap] 27)).alloc (.cells #[.int .i64 0, .slice none 0 0] 27)) := ((Below.refl _ _).alloc (Nat.le_refl _) _).alloc (by simp) _
  have k1 : ((w.alloc (.cells #[.int .i64 s, .slice a len cap] 27)).alloc (.cells #[.int .i64 0, .slice none 0 0] 27)).heap[w.heap.size]? = some (.cells #[.int .i64 s, .slice a len cap] 27 (0, 0)) := (boxes_new _ _ _).trans (MapKept.heap_alloc w _).1
  have k2 : ((w.alloc (.cells #[.int .i64 s, .slice a len cap] 27)).alloc (.cells #[.int .i64 0, .slice none 0 0] 27)).heap[w.heap.size + 1]? = some (.cells #[.int .i64 0, .slice none 0 0] 27 (0, 0)) := (boxes_snd _ _ _).trans (MapKept.heap_alloc _ _).1
  obtain ⟨v0, hv0⟩ : ∃ v, (w.alloc (.cells #[.int .i64 s, .slice a len cap] 27)).alloc (.cells #[.int .i64 0, .slice none 0 0] 27) = v := ⟨_, rfl⟩
  rw [hv0] at hb0 k1 k2
  have hC := tcheck_any s a len cap R P v0 (hT.below hb0)
  rw [tabE_ok hG] at hC
  have HC := Lib.hid hC
  have hO := fun W => isOutside_any n W
  rw [outB_in hn1 hn2] at hO
  have HO := Lib.hid hO
  have HO2 := Lib.hid (fun m W => isOutside_any m W)
  obtain ⟨E, hEE⟩ : ∃ E, tooE (putR s x n R) = E := ⟨_, rfl⟩
  rw [hEE]
  have HEE := Lib.hid hEE
  have hl := hT.len
  have h1 : 1 ≤ len := by rw [← hl]; exact hG.n1
  have h4 : len ≤ 4 := by rw [← hl]; exact hG.n2
  have HCp := Lib.hid (fun W (h : TTx W P a len cap R) => copyRows_any a len cap R P W h h1 h4 (fun r hr => by rw [hG.len r hr]; exact hG.s2))
  have HCl := Lib.hid (fun (i : Nat) (hi : i ≤ 4) W => column_any s (.slice a len cap) x i hG.s1 hG.s2 hi a len cap rfl W)
  have HG := Lib.hid hG
  have HL := Lib.hid hl
  have HTT := Lib.hid (hT.below hb0)
  have HV := Lib.hid hv0
  have HB0 := Lib.hid hb0
  have K1 := Lib.hid k1
  have K2 := Lib.hid k2
  clear hT hv0 hb0 k1 k2 hC hO hl hG hEE
  go_enter Try.func12, Try.ntmps12
  go_upto_region 1 with fail
  rw [HV.out]
  obtain ⟨X, hX⟩ : ∃ X, w.heap.size = X := ⟨_, rfl⟩
  rw [hX] at K1 K2 ⊢
  have HX := Lib.hid hX
  clear HV hX
  obtain ⟨⟨a0, a1⟩, _⟩ := two_cells K1.out
  go_wp2_with fail
  clear a0 a1
  refine HC.out.mono ?_
  rintro e w1 ⟨rfl, hb1⟩
  replace K1 := Lib.hid (kept hb1 K1.out)
  replace K2 := Lib.hid (kept hb1 K2.out)
  replace HTT := Lib.hid (HTT.out.below hb1)
  have HB1 := Lib.hid (below_on HB0.out hb1)
  clear hb1 HC HB0
  go_wp2_with fail
  refine (HO.out _).mono ?_
  rintro e w2 ⟨rfl, hw2⟩
  rw [hw2]
  clear hw2 HO
  obtain ⟨⟨a0, a1⟩, _⟩ := two_cells K1.out
  go_wp2_with fail
  clear a0 a1
  refine (HCp.out _ HTT.out).mono ?_
  rintro e w3 ⟨g0, c0, l0, rfl, hGr, hlR, hb3⟩
  have hXs : X + 1 < w1.heap.size := (Array.getElem?_eq_some_iff.1 K2.out).1
  replace K1 := Lib.hid (kept hb3 K1.out)
  replace K2 := Lib.hid (kept hb3 K2.out)
  have HB3 := Lib.hid (below_on HB1.out hb3)
  have HGr := Lib.hid hGr
  have HlR := Lib.hid hlR
  have HW1 := Lib.hid HB1.out.size
  obtain ⟨B, hB⟩ : ∃ B, w1.heap.size = B := ⟨_, rfl⟩
  rw [hB] at HGr hXs HW1
  have HXB := Lib.hid hXs
  clear hGr hlR hb3 HB1 HCp HTT hXs hB
  go_wp2_with fail
  go_loopg [27] len (fun g i wr => ∃ (k : Nat) (l : List (Value × List Int)), k + g = len ∧ i = .int .i64 k ∧ Hid (l.map (fun p => p.2) = putTo s x n R k) ∧ Hid (∀ j, j < k → ∀ r, R[j]? = some r → ∀ y, r[colN s x j]? = some y → y + n ≤ 1000000000000) ∧ Hid (Grid wr B (.slice (some ⟨g0, 0, none⟩) len c0) l) ∧ Hid (wr.heap[X]? = some (.cells #[.int .i64 s, .slice a len cap] 27 (0, 0))) ∧ Hid (wr.heap[X + 1]? = some (.cells #[.int .i64 0, .slice none 0 0] 27 (0, 0))) ∧ Hid (Below w.heap.size w wr))
  case atStart => exact ⟨0, l0, by omega, rfl, Lib.hid (by rw [putTo_zero]; exact HlR.out), Lib.hid (fun j hj => by omega), HGr, K1, K2, HB3⟩
  case round =>
    clear HlR HGr K1 K2 HB3
    obtain ⟨k, l, hk0, rfl, HLR, HN, HGr, K1, K2, HW⟩ := hrel
    have HJ := Lib.hid hk0
    have hk : k ≤ len := by omega
    clear hk0
    by_cases hlt : k < len
    · obtain ⟨r, hr⟩ : ∃ r, R[k]? = some r := ⟨_, List.getElem?_eq_getElem (by rw [HL.out]; exact hlt)⟩
      have hrm := List.mem_of_getElem? hr
      have hrl := HG.out.len r hrm
      obtain ⟨y, hy⟩ := at_some (x := x) (i := k) HG.out.s1 hrl
      have hyb := HG.out.cnt r hrm y (List.mem_of_getElem? hy)
      have hlk : (l.map (fun p => p.2))[k]? = some r := by
        rw [HLR.out, putTo_split hr, List.getElem?_append_right (by rw [List.length_take]; omega), List.length_take, putR_len, HL.out, show k - min k len = 0 from by omega]
        rfl
      obtain ⟨pr, hpr, hpr2⟩ : ∃ pr, l[k]? = some pr ∧ pr.2 = r := by
        rw [List.getElem?_map] at hlk
        cases h : l[k]? with
        | none => rw [h] at hlk; cases hlk
        | some pr => rw [h] at hlk; exact ⟨pr, rfl, by simpa using hlk⟩
      obtain ⟨d0, d1, _, _⟩ := HGr.out.at_ hpr
      obtain ⟨g, c, hp1, hgB, hgs, hOw⟩ := HGr.out.row hpr (by rw [hpr2, hrl]; exact HG.out.s1)
      rw [hpr2] at hp1 hOw
      have hll := list_at hpr
      have hprr : pr = (.slice (some ⟨g, 0, none⟩) r.length c, r) := by rw [← hp1, ← hpr2]
      rw [hprr] at hll
      rw [hp1] at d0
      have HOw := Lib.hid hOw
      have HLL := Lib.hid hll
      have HY := Lib.hid hy
      have HRK := Lib.hid hr
      have HPL := Lib.hid (show l.length = len from by have h := HGr.out.out.tab_of.hlen; rw [List.length_map] at h; exact h)
      have HRL := Lib.hid hrl
      have hcl := colN_lt (x := x) (i := k) HG.out.s1
      obtain ⟨p, hp⟩ : ∃ p, colN s x k = p := ⟨_, rfl⟩
      have HC2 := fun W => HCl.out k (by omega) W
      rw [hp] at HC2 hcl HY
      replace HC2 := Lib.hid HC2
      have HP := Lib.hid hp
      have hrl2 : p < r.length := by rw [hrl]; exact hcl
      have hrl3 : r.length ≤ 32 := by rw [hrl]; exact HG.out.s2
      obtain ⟨rl, hrlv⟩ : ∃ m, r.length = m := ⟨_, rfl⟩
      rw [hrlv] at d0 HOw HLL HRL hrl2 hrl3
      obtain ⟨⟨b0, b1⟩, _⟩ := two_cells K1.out
      have hgb : B ≤ g := hgB
      clear hr hrm hrl hy hlk hpr hpr2 hp1 hOw hll hprr hp hcl hrlv
      obtain ⟨wo, hwo⟩ : ∃ wo, wo = wr := ⟨_, rfl⟩
      subst hwo
      go_wp2_with fail
      refine (HC2.out _).mono ?_
      rintro e w5 ⟨rfl, hb5⟩
      have hO5 := HOw.out.below hb5
      obtain ⟨e0, e1, _, _⟩ := hO5.at1 (map_get HY.out)
      have hG5 := HGr.out.below hb5
      rw [HLL.out] at hG5
      have hG6 := hG5.set HY.out (y + n)
      have HG6 := Lib.hid hG6
      have HW6 := Lib.hid ((below_on HW.out hb5).setCell (p := ⟨g, p, none⟩) (Nat.le_trans HW1.out hgb) (.int .i64 (y + n)))
      have J1 := Lib.hid (blk_else (a := ⟨g, p, none⟩) (v := .int .i64 (y + n)) (kept hb5 K1.out) (by show X ≠ g; have := HXB.out; omega))
      have J2 := Lib.hid (blk_else (a := ⟨g, p, none⟩) (v := .int .i64 (y + n)) (kept hb5 K2.out) (by show X + 1 ≠ g; have := HXB.out; omega))
      have hq0 : (w5.setCell ⟨g, p, none⟩ (.int .i64 (y + n))).cell? ⟨g, p, none⟩ = some (.int .i64 (y + n)) := by
        have h := (hO5.set1 (map_get HY.out) (.int .i64 (y + n))).at1 (i := p) (u := .int .i64 (y + n)) (by rw [List.getElem?_set, if_pos rfl, if_pos (by rw [List.length_map]; exact (List.getElem?_eq_some_iff.1 HY.out).1)])
        exact h.1
      have hyl := hyb.1
      have hyh := hyb.2
      clear hb5 hO5 hG5 hG6 b0 b1 hyb
      by_cases hbig : y + n ≤ 1000000000000
      · have hof := fun W => HO2.out (y + n) W
        rw [outB_in (by omega) hbig] at hof
        have HOF := Lib.hid hof
        have HN2 : Hid (∀ j, j < k + 1 → ∀ r, R[j]? = some r → ∀ y, r[colN s x j]? = some y → y + n ≤ 1000000000000) := Lib.hid (fun j hj r' hr' y' hy' => by
          by_cases hjk : j = k
          · subst hjk
            rw [HRK.out, Option.some.injEq] at hr'
            subst hr'
            rw [HP.out, HY.out, Option.some.injEq] at hy'
            subst hy'
            exact hbig
          · exact HN.out j (by omega) r' hr' y' hy')
        clear hof hbig
        go_wp2_with fail
        refine (HOF.out _).mono ?_
        rintro e w7 ⟨rfl, hw7⟩
        rw [hw7]
        clear hw7 HOF
        go_wp2_with fail
        go_roundg (len - (k + 1))
        case measure => have := HJ.out; omega
        case rel =>
          refine ⟨k + 1, l.take k ++ (.slice (some ⟨g, 0, none⟩) rl c, r.set p (y + n)) :: l.drop (k + 1), by omega, by go_num, Lib.hid ?_, HN2, HG6, J1, J2, HW6⟩
          rw [List.map_append, List.map_cons, List.map_take, List.map_drop, HLR.out, putTo_succ HRK.out, HP.out, modify_is HY.out]
          have e1 : (putR s x n R).take k = (putTo s x n R k).take k := by
            unfold putTo
            rw [List.take_append_of_le_length (by rw [List.length_take, putR_len, HL.out]; omega), List.take_take, Nat.min_self]
          have e2 : (putTo s x n R k).drop (k + 1) = R.drop (k + 1) := by
            rw [putTo_split HRK.out, List.drop_append, List.length_take, putR_len, HL.out, show min k len = k from by omega, List.drop_of_length_le (by rw [List.length_take]; omega), show k + 1 - k = 1 from by omega]
            rfl
          rw [e2, ← e1]
      · have hof := fun W => HO2.out (y + n) W
        rw [outB_big (by omega)] at hof
        have HOF := Lib.hid hof
        obtain rfl : E = 2 := by
          rw [← HEE.out]
          rcases tooE_cases (putR s x n R) with h | h
          · exact h
          · have := (put_too hn1 HG.out).1 h k r HRK.out y (by rw [HP.out]; exact HY.out)
            omega
        have hz := zero_two J2.out 0 (.slice none 0 0)
        have hbz := below_two HW6.out (b := X + 1) (by rw [← HX.out]; omega) (.int .i64 0) (.slice none 0 0)
        obtain ⟨⟨z0, z1⟩, f0, f1⟩ := two_cells J2.out
        have HBZ := Lib.hid hbz
        have HZ := Lib.hid hz
        clear hof hbig hbz hz
        go_wp2_with fail
        refine (HOF.out _).mono ?_
        rintro e w7 ⟨rfl, hw7⟩
        rw [hw7]
        clear hw7 HOF
        go_wp2_with fail
        obtain ⟨y0, y1⟩ := HZ.out
        generalize (((w5.setCell { block := g, off := p } (Value.int IntKind.i64 (y + n))).setCell { block := X + 1, off := 0 } (Value.int IntKind.i64 0)).setCell { block := X + 1, off := 1 } (Value.slice none 0 0)) = w8 at *
        clear z0 z1 f0 f1 e0 e1 hq0
        try simp only [Exit.inBlock, Exit.then]
        refine bodyPost_ret (by simp [results, Try.results12, go_sem, y0, y1, Result.andThen]; try rfl) rfl ?_
        exact ⟨0, none, 0, 0, [], rfl, Or.inr ⟨by decide, rfl, rfl⟩, ⟨[], GT.nilG _ _, rfl⟩, HBZ.out⟩
    · obtain rfl : k = len := by omega
      have hall : tooE (putR s x n R) = 0 := (put_too hn1 HG.out).2 (fun i r hr y hy => HN.out i (by have := (List.getElem?_eq_some_iff.1 hr).1; rw [HL.out] at this; exact this) r hr y hy)
      have hgz := (HGr.out.setCell (a := ⟨X + 1, 0, none⟩) HXB.out (.int .i64 s)).setCell (a := ⟨X + 1, 1, none⟩) HXB.out (.slice (some ⟨g0, 0, none⟩) k c0)
      have hll : l.length = k := by have h := HGr.out.out.tab_of.hlen; rw [List.length_map] at h; exact h
      have HTT := Lib.hid (show GT _ w.heap.size (some ⟨g0, 0, none⟩) k c0 (putR s x n R) from ⟨l, hgz.base_le HW1.out, by rw [HLR.out, ← HL.out, putTo_all]⟩)
      obtain rfl : E = 0 := by rw [← HEE.out]; exact hall
      have hz := zero_two K2.out s (.slice (some ⟨g0, 0, none⟩) k c0)
      have hbz := below_two HW.out (b := X + 1) (by rw [← HX.out]; omega) (.int .i64 s) (.slice (some ⟨g0, 0, none⟩) k c0)
      obtain ⟨⟨z0, z1⟩, f0, f1⟩ := two_cells K2.out
      obtain ⟨⟨b0, b1⟩, _⟩ := two_cells K1.out
      have HBZ := Lib.hid hbz
      have HZ := Lib.hid hz
      clear hbz hz hll hgz hall
      go_wp2_with fail
      obtain ⟨y0, y1⟩ := HZ.out
      generalize ((wr.setCell { block := X + 1, off := 0 } (Value.int IntKind.i64 s)).setCell { block := X + 1, off := 1 } (Value.slice (some { block := g0, off := 0 }) k c0)) = w8 at *
      clear z0 z1 f0 f1 b0 b1
      try simp only [Exit.inBlock, Exit.then]
      refine bodyPost_ret (by simp [results, Try.results12, go_sem, y0, y1, Result.andThen]; try rfl) rfl ?_
      exact ⟨s, _, k, c0, rfl, _, ⟨rfl, rfl⟩, HTT.out, HBZ.out⟩
theorem tput_ok (s : Nat) (x n : Int) (a : Option Addr) (len cap : Nat) (R : List (List Int)) (P : Nat → Prop) (w : World) (hT : TTx w P a len cap R) (hG : GoodT s R) (hn1 : 0 ≤ n) (hn2 : n ≤ 1000000000000) :
    Calls Try.prog 12 #[.agg #[.int .i64 s, .slice a len cap], .int .i64 x, .int .i64 n] w fun e w' => ∃ (S : Int) (a' : Option Addr) (l' c' : Nat) (R' : List (List Int)), e = .returned (.tuple #[.agg #[.int .i64 S, .slice a' l' c'], .int .i64 (tooE (putR s x n R))]) ∧ (tooE (putR s x n R) = 0 ∧ S = s ∧ R' = putR s x n R ∨ tooE (putR s x n R) ≠ 0 ∧ S = 0 ∧ R' = []) ∧ TTx w' (fun b => w.heap.size ≤ b) a' l' c' R' ∧ Below w.heap.size w w' := by
  refine (tput_grid s x n a len cap R P w hT hG hn1 hn2).mono ?_
  rintro e w' ⟨S, a', l', c', R', h1, h2, h3, h4⟩
  exact ⟨S, a', l', c', R', h1, h2, h3.tt, h4⟩

end Go.Proofs.Ytffgoekdjcempab

/- The contract of the program's table.Join. -/
namespace Go.Proofs.Ytffgoekdjcempab
open Go.ChangeShapes Go.WideShapes Go.ChangeAt Go.RowKit
open Tbl

namespace Tbl
/-- the three boxes of a join -/
structure Box3 (w0 w : World) (t u : Value) (W V : Int) : Prop where
  b : Below w0.heap.size w0 w
  k1 : w.heap[w0.heap.size]? = some (.cells #[.int .i64 W, t] 27 (0, 0))
  k2 : w.heap[w0.heap.size + 1]? = some (.cells #[.int .i64 V, u] 27 (0, 0))
  k3 : w.heap[w0.heap.size + 2]? = some (.cells #[.int .i64 0, .slice none 0 0] 27 (0, 0))
theorem Box3.new (w : World) (t u : Value) (W V : Int) : Box3 w (((w.alloc (.cells #[.int .i64 W, t] 27)).alloc (.cells #[.int .i64 V, u] 27)).alloc (.cells #[.int .i64 0, .slice none 0 0] 27)) t u W V := by
  have s1 : (w.alloc (.cells #[.int .i64 W, t] 27)).heap.size = w.heap.size + 1 := by simp
  have s2 : ((w.alloc (.cells #[.int .i64 W, t] 27)).alloc (.cells #[.int .i64 V, u] 27)).heap.size = w.heap.size + 2 := by simp
  refine ⟨(((Below.refl _ _).alloc (Nat.le_refl _) _).alloc (by simp) _).alloc (by rw [s2]; omega) _, ?_, ?_, ?_⟩
  · rw [Below.heap_alloc _ _ _ (by rw [s2]; omega), Below.heap_alloc _ _ _ (by rw [s1]; omega)]
    exact (MapKept.heap_alloc w _).1
  · rw [Below.heap_alloc _ _ _ (by rw [s2]; omega), ← s1]
    exact (MapKept.heap_alloc _ _).1
  · rw [← s2]
    exact (MapKept.heap_alloc _ _).1
theorem Box3.on {w0 w w' : World} {t u : Value} {W V : Int} (h : Box3 w0 w t u W V) (hb : Below w.heap.size w w') : Box3 w0 w' t u W V := ⟨below_on h.b hb, kept hb h.k1, kept hb h.k2, kept hb h.k3⟩
end Tbl

set_option maxRecDepth 100000 in
set_option maxHeartbeats 4000000 in
theorem tjoin_bad (W V : Int) (a b : Option Addr) (len cap len2 cap2 : Nat) (R Q : List (List Int)) (P P2 : Nat → Prop) (w : World) (hT : TTx w P a len cap R) (hT2 : TTx w P2 b len2 cap2 Q) (hE : tabE W R ≠ 0 ∨ tabE V Q ≠ 0 ∨ W ≠ V ∨ R.length ≠ Q.length) :
    Calls Try.prog 13 #[.agg #[.int .i64 W, .slice a len cap], .agg #[.int .i64 V, .slice b len2 cap2]] w fun e w' => e = .returned (.tuple #[.agg #[.int .i64 0, .slice none 0 0], .int .i64 (if tabE W R ≠ 0 then tabE W R else if tabE V Q ≠ 0 then tabE V Q else 7)]) ∧ Below w.heap.size w w' := by
  have hbx := Box3.new w (.slice a len cap) (.slice b len2 cap2) W V
  obtain ⟨v0, hv0⟩ : ∃ v, (((w.alloc (.cells #[.int .i64 W, .slice a len cap] 27)).alloc (.cells #[.int .i64 V, .slice b len2 cap2] 27)).alloc (.cells #[.int .i64 0, .slice none 0 0] 27)) = v := ⟨_, rfl⟩
  rw [hv0] at hbx
  have HC := fun U (h : Below w.heap.size w U) => tcheck_any W a len cap R P U (hT.below h)
  have HC2 := fun U (h : Below w.heap.size w U) => tcheck_any V b len2 cap2 Q P2 U (hT2.below h)
  have hl := hT.len
  have hl2 := hT2.len
  have hm := hT.max
  have hm2 := hT2.max
  obtain ⟨E, hEE⟩ : ∃ E, tabE W R = E := ⟨_, rfl⟩
  obtain ⟨E2, hEE2⟩ : ∃ E, tabE V Q = E := ⟨_, rfl⟩
  rw [hEE] at HC hE
  rw [hEE2] at HC2 hE
  rw [hl, hl2] at hE
  rw [hEE, hEE2]
  replace HC := Lib.hid HC
  replace HC2 := Lib.hid HC2
  have HBX := Lib.hid hbx
  have HV := Lib.hid hv0
  clear hT hT2 hbx hv0 hEE hEE2 hl hl2
  obtain ⟨X, hX⟩ : ∃ X, w.heap.size = X := ⟨_, rfl⟩
  have HX := Lib.hid hX
  by_cases h1 : E ≠ 0
  · rw [if_pos h1]
    have t1 : (E != 0) = true := by simpa using h1
    clear hE h1 HC2
    go_enter Try.func13, Try.ntmps13
    go_upto_region 1 with fail
    rw [HV.out]
    have K1 := Lib.hid HBX.out.k1
    have K3 := Lib.hid HBX.out.k3
    rw [hX] at K1 K3
    rw [show X + 1 + 1 = X + 2 from rfl]
    clear HV hX
    obtain ⟨⟨a0, a1⟩, _⟩ := two_cells K1.out
    go_wp2_with fail
    clear a0 a1
    refine (HC.out _ HBX.out.b).mono ?_
    rintro e w1 ⟨rfl, hb1⟩
    replace K3 := Lib.hid (kept hb1 K3.out)
    have hz := zero_two K3.out 0 (.slice none 0 0)
    have hbz := below_two (below_on HBX.out.b hb1) (b := X + 2) (by rw [← HX.out]; omega) (.int .i64 0) (.slice none 0 0)
    obtain ⟨⟨c0, c1⟩, f0, f1⟩ := two_cells K3.out
    clear hb1 HC
    go_wp2_with fail
    obtain ⟨z0, z1⟩ := hz
    generalize ((w1.setCell { block := X + 2, off := 0 } (Value.int IntKind.i64 0)).setCell { block := X + 2, off := 1 } (Value.slice none 0 0)) = w3 at *
    clear c0 c1 f0 f1
    try simp only [Exit.inBlock, Exit.then]
    refine bodyPost_ret (by simp [results, Try.results13, go_sem, z0, z1, Result.andThen]; try rfl) rfl ?_
    exact ⟨rfl, hbz⟩
  obtain rfl : E = 0 := by omega
  rw [if_neg h1]
  replace hE : E2 ≠ 0 ∨ W ≠ V ∨ len ≠ len2 := by
    rcases hE with h | h
    · exact absurd h h1
    · exact h
  obtain ⟨J, hJ⟩ : ∃ J, (if E2 ≠ 0 then E2 else 7) = J := ⟨_, rfl⟩
  rw [hJ]
  have HJ := Lib.hid hJ
  clear h1 hJ
  go_enter Try.func13, Try.ntmps13
  go_upto_region 1 with fail
  rw [HV.out]
  have K1 := Lib.hid HBX.out.k1
  have K2 := Lib.hid HBX.out.k2
  have K3 := Lib.hid HBX.out.k3
  rw [hX] at K1 K2 K3
  rw [show X + 1 + 1 = X + 2 from rfl]
  clear HV hX
  obtain ⟨⟨a0, a1⟩, _⟩ := two_cells K1.out
  go_wp2_with fail
  clear a0 a1
  refine (HC.out _ HBX.out.b).mono ?_
  rintro e w1 ⟨rfl, hb1⟩
  replace K1 := Lib.hid (kept hb1 K1.out)
  replace K2 := Lib.hid (kept hb1 K2.out)
  replace K3 := Lib.hid (kept hb1 K3.out)
  have HB1 := Lib.hid (below_on HBX.out.b hb1)
  clear hb1 HC HBX
  obtain ⟨⟨a0, a1⟩, _⟩ := two_cells K2.out
  go_wp2_with fail
  clear a0 a1
  refine (HC2.out _ HB1.out).mono ?_
  rintro e w2 ⟨rfl, hb2⟩
  replace K1 := Lib.hid (kept hb2 K1.out)
  replace K2 := Lib.hid (kept hb2 K2.out)
  replace K3 := Lib.hid (kept hb2 K3.out)
  have HB2 := Lib.hid (below_on HB1.out hb2)
  clear hb2 HC2 HB1
  have hz := zero_two K3.out 0 (.slice none 0 0)
  have hbz := below_two HB2.out (b := X + 2) (by rw [← HX.out]; omega) (.int .i64 0) (.slice none 0 0)
  obtain ⟨⟨c0, c1⟩, f0, f1⟩ := two_cells K3.out
  obtain ⟨⟨a0, a1⟩, _⟩ := two_cells K1.out
  obtain ⟨⟨b0, b1⟩, _⟩ := two_cells K2.out
  have HZ := Lib.hid hz
  have HBZ := Lib.hid hbz
  clear hz hbz
  by_cases h2 : E2 ≠ 0
  · obtain rfl : J = E2 := by rw [← HJ.out, if_pos h2]
    have t1 : (J != 0) = true := by simpa using h2
    clear hE h2
    go_wp2_with fail
    obtain ⟨z0, z1⟩ := HZ.out
    generalize ((w2.setCell { block := X + 2, off := 0 } (Value.int IntKind.i64 0)).setCell { block := X + 2, off := 1 } (Value.slice none 0 0)) = w3 at *
    clear c0 c1 f0 f1
    try simp only [Exit.inBlock, Exit.then]
    refine bodyPost_ret (by simp [results, Try.results13, go_sem, z0, z1, Result.andThen]; try rfl) rfl ?_
    exact ⟨rfl, HBZ.out⟩
  obtain rfl : E2 = 0 := by omega
  obtain rfl : J = 7 := by rw [← HJ.out, if_neg h2]
  by_cases h3 : W ≠ V
  · have t1 : (W != V) = true := by simpa using h3
    clear hE h2 h3
    go_wp2_with fail
    obtain ⟨z0, z1⟩ := HZ.out
    generalize ((w2.setCell { block := X + 2, off := 0 } (Value.int IntKind.i64 0)).setCell { block := X + 2, off := 1 } (Value.slice none 0 0)) = w3 at *
    clear c0 c1 f0 f1
    try simp only [Exit.inBlock, Exit.then]
    refine bodyPost_ret (by simp [results, Try.results13, go_sem, z0, z1, Result.andThen]; try rfl) rfl ?_
    exact ⟨rfl, HBZ.out⟩
  obtain rfl : W = V := by omega
  have h4 : len ≠ len2 := by
    rcases hE with h | h | h
    · exact absurd rfl h
    · exact absurd h h3
    · exact h
  have t1 : (W != W) = false := by simp
  have t2 : ((len : Int) != (len2 : Int)) = true := by simpa using (by omega : ¬ (len : Int) = (len2 : Int))
  clear hE h2 h3 h4
  go_wp2_with fail
  obtain ⟨z0, z1⟩ := HZ.out
  generalize ((w2.setCell { block := X + 2, off := 0 } (Value.int IntKind.i64 0)).setCell { block := X + 2, off := 1 } (Value.slice none 0 0)) = w3 at *
  clear c0 c1 f0 f1
  try simp only [Exit.inBlock, Exit.then]
  refine bodyPost_ret (by simp [results, Try.results13, go_sem, z0, z1, Result.andThen]; try rfl) rfl ?_
  exact ⟨rfl, HBZ.out⟩

set_option maxRecDepth 100000 in
set_option maxHeartbeats 6000000 in
theorem tjoin_grid (s : Nat) (a b : Option Addr) (len cap cap2 : Nat) (R Q : List (List Int)) (P P2 : Nat → Prop) (w : World) (hT : TTx w P a len cap R) (hT2 : TTx w P2 b len cap2 Q) (hG : GoodT s R) (hG2 : GoodT s Q) :
    Calls Try.prog 13 #[.agg #[.int .i64 s, .slice a len cap], .agg #[.int .i64 s, .slice b len cap2]] w fun e w' => ∃ (S : Int) (a' : Option Addr) (l' c' : Nat) (R' : List (List Int)), e = .returned (.tuple #[.agg #[.int .i64 S, .slice a' l' c'], .int .i64 (tooE (joinR R Q))]) ∧ (tooE (joinR R Q) = 0 ∧ S = s ∧ R' = joinR R Q ∨ tooE (joinR R Q) ≠ 0 ∧ S = 0 ∧ R' = []) ∧ GT w' w.heap.size a' l' c' R' ∧ Below w.heap.size w w' := by
  have hbx := Box3.new w (.slice a len cap) (.slice b len cap2) s s
  obtain ⟨v0, hv0⟩ : ∃ v, (((w.alloc (.cells #[.int .i64 s, .slice a len cap] 27)).alloc (.cells #[.int .i64 s, .slice b len cap2] 27)).alloc (.cells #[.int .i64 0, .slice none 0 0] 27)) = v := ⟨_, rfl⟩
  rw [hv0] at hbx
  have hC := fun U (h : Below w.heap.size w U) => tcheck_any s a len cap R P U (hT.below h)
  have hC2 := fun U (h : Below w.heap.size w U) => tcheck_any s b len cap2 Q P2 U (hT2.below h)
  rw [tabE_ok hG] at hC
  rw [tabE_ok hG2] at hC2
  have HC := Lib.hid hC
  have HC2 := Lib.hid hC2
  have HO2 := Lib.hid (fun m W => isOutside_any m W)
  obtain ⟨E, hEE⟩ : ∃ E, tooE (joinR R Q) = E := ⟨_, rfl⟩
  rw [hEE]
  have HEE := Lib.hid hEE
  have hl := hT.len
  have hl2 := hT2.len
  have h1 : 1 ≤ len := by rw [← hl]; exact hG.n1
  have h4 : len ≤ 4 := by rw [← hl]; exact hG.n2
  have HCp := Lib.hid (fun W (h : TTx W P a len cap R) => copyRows_any a len cap R P W h h1 h4 (fun r hr => by rw [hG.len r hr]; exact hG.s2))
  have s1 := hG.s1
  have s2 := hG.s2
  have HG := Lib.hid (And.intro hG hG2)
  have HL := Lib.hid (And.intro hl hl2)
  have HT := Lib.hid hT
  have HT2 := Lib.hid hT2
  have HV := Lib.hid hv0
  have HBX := Lib.hid hbx
  have t1 : ((s : Int) != (s : Int)) = false := by simp
  have t2 : ((len : Int) != (len : Int)) = false := by simp
  clear hT hT2 hv0 hC hC2 hl hl2 hG hG2 hEE hbx
  go_enter Try.func13, Try.ntmps13
  go_upto_region 1 with fail
  rw [HV.out]
  have K1 := Lib.hid HBX.out.k1
  have K2 := Lib.hid HBX.out.k2
  have K3 := Lib.hid HBX.out.k3
  obtain ⟨X, hX⟩ : ∃ X, w.heap.size = X := ⟨_, rfl⟩
  have HX := Lib.hid hX
  rw [hX] at K1 K2 K3 ⊢
  rw [show X + 1 + 1 = X + 2 from rfl]
  clear HV hX
  obtain ⟨⟨a0, a1⟩, _⟩ := two_cells K1.out
  go_wp2_with fail
  clear a0 a1
  refine (HC.out _ HBX.out.b).mono ?_
  rintro e w1 ⟨rfl, hb1⟩
  replace K1 := Lib.hid (kept hb1 K1.out)
  replace K2 := Lib.hid (kept hb1 K2.out)
  replace K3 := Lib.hid (kept hb1 K3.out)
  have HB1 := Lib.hid (below_on HBX.out.b hb1)
  clear hb1 HC HBX
  obtain ⟨⟨a0, a1⟩, _⟩ := two_cells K2.out
  go_wp2_with fail
  clear a0 a1
  refine (HC2.out _ HB1.out).mono ?_
  rintro e w2 ⟨rfl, hb2⟩
  replace K1 := Lib.hid (kept hb2 K1.out)
  replace K2 := Lib.hid (kept hb2 K2.out)
  replace K3 := Lib.hid (kept hb2 K3.out)
  have HB2 := Lib.hid (below_on HB1.out hb2)
  clear hb2 HC2 HB1
  obtain ⟨⟨a0, a1⟩, _⟩ := two_cells K1.out
  obtain ⟨⟨b0, b1⟩, _⟩ := two_cells K2.out
  go_wp2_with fail
  clear a0 a1 b0 b1
  refine (HCp.out _ (HT.out.below HB2.out)).mono ?_
  rintro e w3 ⟨g0, c0, l0, rfl, hGr, hlR, hb3⟩
  have hXs : X + 2 < w2.heap.size := (Array.getElem?_eq_some_iff.1 K3.out).1
  replace K1 := Lib.hid (kept hb3 K1.out)
  replace K2 := Lib.hid (kept hb3 K2.out)
  replace K3 := Lib.hid (kept hb3 K3.out)
  have HB3 := Lib.hid (below_on HB2.out hb3)
  have HGr := Lib.hid hGr
  have HlR := Lib.hid hlR
  have HW1 := Lib.hid HB2.out.size
  obtain ⟨B, hB⟩ : ∃ B, w2.heap.size = B := ⟨_, rfl⟩
  rw [hB] at HGr hXs HW1
  have HXB := Lib.hid hXs
  clear hGr hlR hb3 HB2 HCp hXs hB
  go_wp2_with fail
  go_loopg [45] len (fun g i wr => ∃ (k : Nat) (l : List (Value × List Int)), k + g = len ∧ i = .int .i64 k ∧ Hid (l.map (fun p => p.2) = joinTo R Q k) ∧ Hid (∀ j, j < k → ∀ r q, R[j]? = some r → Q[j]? = some q → ∀ x ∈ addL r q, outB x = false) ∧ Hid (Grid wr B (.slice (some ⟨g0, 0, none⟩) len c0) l) ∧ Hid (wr.heap[X]? = some (.cells #[.int .i64 s, .slice a len cap] 27 (0, 0))) ∧ Hid (wr.heap[X + 1]? = some (.cells #[.int .i64 s, .slice b len cap2] 27 (0, 0))) ∧ Hid (wr.heap[X + 2]? = some (.cells #[.int .i64 0, .slice none 0 0] 27 (0, 0))) ∧ Hid (Below w.heap.size w wr))
  case atStart => exact ⟨0, l0, by omega, rfl, Lib.hid (by rw [joinTo_zero]; exact HlR.out), Lib.hid (fun j hj => by omega), HGr, K1, K2, K3, HB3⟩
  case round =>
    clear HlR HGr K1 K2 K3 HB3
    obtain ⟨k, l, hk0, rfl, HLR, HN, HGr, K1, K2, K3, HW⟩ := hrel
    have HJ := Lib.hid hk0
    have hk : k ≤ len := by omega
    clear hk0
    by_cases hlt : k < len
    · obtain ⟨r, hr⟩ : ∃ r, R[k]? = some r := ⟨_, List.getElem?_eq_getElem (by rw [HL.out.1]; exact hlt)⟩
      obtain ⟨q, hq⟩ : ∃ r, Q[k]? = some r := ⟨_, List.getElem?_eq_getElem (by rw [HL.out.2]; exact hlt)⟩
      have hrm := List.mem_of_getElem? hr
      have hqm := List.mem_of_getElem? hq
      have hrl := HG.out.1.len r hrm
      have hql := HG.out.2.len q hqm
      have hlk : (l.map (fun p => p.2))[k]? = some r := by
        rw [HLR.out, joinTo_split hr, List.getElem?_append_right (by rw [List.length_take]; omega), List.length_take, joinR_len (by rw [HL.out.1, HL.out.2]), HL.out.1, show k - min k len = 0 from by omega]
        rfl
      obtain ⟨pr, hpr, hpr2⟩ : ∃ pr, l[k]? = some pr ∧ pr.2 = r := by
        rw [List.getElem?_map] at hlk
        cases h : l[k]? with
        | none => rw [h] at hlk; cases hlk
        | some pr => rw [h] at hlk; exact ⟨pr, rfl, by simpa using hlk⟩
      obtain ⟨d0, d1, _, _⟩ := HGr.out.at_ hpr
      obtain ⟨g, c, hp1, hgB, hgs, hOw⟩ := HGr.out.row hpr (by rw [hpr2, hrl]; exact s1)
      rw [hpr2] at hp1 hOw
      have hll := list_at hpr
      have hprr : pr = (.slice (some ⟨g, 0, none⟩) r.length c, r) := by rw [← hp1, ← hpr2]
      rw [hprr] at hll
      rw [hp1] at d0
      rw [hrl] at d0 hll
      have hgr0 := HGr.out
      rw [hll, ← addTo_zero r q] at hgr0
      have HGr0 := Lib.hid hgr0
      have HRK := Lib.hid (And.intro hr hq)
      have HRL := Lib.hid (And.intro hrl hql)
      have HRM := Lib.hid (And.intro (HG.out.1.cnt r hrm) (HG.out.2.cnt q hqm))
      have hgb : B ≤ g := hgB
      obtain ⟨b2, o2, qa, qn, qc, hab, hbs2, e0, hTq, hqn, hqc, hqmx⟩ := HT2.out.row HW.out hq
      have hqns : s = qn := by rw [← hqn, hql]
      subst hqns
      obtain ⟨⟨b0, b1⟩, _⟩ := two_cells K2.out
      have HTQ : Hid (∀ wx, Below w.heap.size w wx → Tab wx qa s qc 1 (q.map iC)) := Lib.hid (fun wx hb => by
        obtain ⟨b3, o3, qa3, qn3, qc3, hab3, hbs3, e3, hT3, hqn3, _, _⟩ := HT2.out.row hb hq
        rw [hab3] at hab
        simp only [Option.some.injEq, Addr.mk.injEq, and_true] at hab
        have e4 := (hb.cell (p := ⟨b3, o3 + k, none⟩) hbs3).symm.trans e3
        have e5 := (HW.out.cell (p := ⟨b2, o2 + k, none⟩) hbs2).symm.trans e0
        rw [hab.1, hab.2] at e4
        rw [e4] at e5
        simp only [Option.some.injEq, Value.slice.injEq] at e5
        rw [← e5.1, ← e5.2.2]
        have : qn3 = s := e5.2.1
        rw [← this]
        exact hT3)
      have hab2 := Lib.hid hab
      subst hab
      obtain ⟨A, hA⟩ : ∃ A, l.take k = A := ⟨_, rfl⟩
      obtain ⟨C, hC⟩ : ∃ C, l.drop (k + 1) = C := ⟨_, rfl⟩
      rw [hA, hC] at HGr0
      have HAC := Lib.hid (And.intro hA hC)
      clear hr hq hrm hqm hrl hql hlk hpr hpr2 hp1 hOw hll hprr hgr0 hTq hqn HGr hA hC hab2 hgs hgB
      obtain ⟨wo, hwo⟩ : ∃ wo, wo = wr := ⟨_, rfl⟩
      subst hwo
      go_wp2_with fail
      clear d0 d1 e0 b0 b1
      go_loopg [56] s (fun g' i wr => ∃ (j : Nat), j + g' = s ∧ i = .int .i64 j ∧ Hid (∀ m, m < j → ∀ y z, r[m]? = some y → q[m]? = some z → y + z ≤ 1000000000000) ∧ Hid (Grid wr B (.slice (some ⟨g0, 0, none⟩) len c0) (A ++ (.slice (some ⟨g, 0, none⟩) s c, addTo r q j) :: C)) ∧ Hid (wr.heap[X]? = some (.cells #[.int .i64 s, .slice a len cap] 27 (0, 0))) ∧ Hid (wr.heap[X + 1]? = some (.cells #[.int .i64 s, .slice (some ⟨b2, o2, none⟩) len cap2] 27 (0, 0))) ∧ Hid (wr.heap[X + 2]? = some (.cells #[.int .i64 0, .slice none 0 0] 27 (0, 0))) ∧ Hid (Below w.heap.size w wr))
      case atStart => exact ⟨0, by omega, rfl, Lib.hid (fun m hm => by omega), HGr0, K1, K2, K3, HW⟩
      case round =>
        clear HGr0 K1 K2 K3 HW
        obtain ⟨j, hj0, rfl, HM, HGr, K1, K2, K3, HW⟩ := hrel
        have HJ2 := Lib.hid hj0
        have hj : j ≤ s := by omega
        clear hj0
        by_cases hlt2 : j < s
        · obtain ⟨y, hy⟩ : ∃ y, r[j]? = some y := ⟨_, List.getElem?_eq_getElem (by rw [HRL.out.1]; exact hlt2)⟩
          obtain ⟨z, hz⟩ : ∃ y, q[j]? = some y := ⟨_, List.getElem?_eq_getElem (by rw [HRL.out.2]; exact hlt2)⟩
          have hyb := HRM.out.1 y (List.mem_of_getElem? hy)
          have hzb := HRM.out.2 z (List.mem_of_getElem? hz)
          have hrq : r.length = q.length := by rw [HRL.out.1, HRL.out.2]
          have hgy := addTo_get hrq hy
          have hgs := addTo_succ hrq hy hz
          have hO := HGr.out.inn.own (.slice (some ⟨g, 0, none⟩) s c, addTo r q j) (by simp)
          obtain ⟨e0, e1, _, _⟩ := hO.at1 (map_get hgy)
          obtain ⟨b5, o5, hab5, hbs5, f0⟩ := (HTQ.out _ HW.out).one (Below.refl _ _) (map_get hz)
          subst hab5
          have hG6 := HGr.out.set hgy (y + z)
          rw [hgs] at hG6
          have HG6 := Lib.hid hG6
          have HW6 := Lib.hid (HW.out.setCell (p := ⟨g, j, none⟩) (Nat.le_trans HW1.out hgb) (.int .i64 (y + z)))
          have J1 := Lib.hid (blk_else (a := ⟨g, j, none⟩) (v := .int .i64 (y + z)) K1.out (by show X ≠ g; have := HXB.out; omega))
          have J2 := Lib.hid (blk_else (a := ⟨g, j, none⟩) (v := .int .i64 (y + z)) K2.out (by show X + 1 ≠ g; have := HXB.out; omega))
          have J3 := Lib.hid (blk_else (a := ⟨g, j, none⟩) (v := .int .i64 (y + z)) K3.out (by show X + 2 ≠ g; have := HXB.out; omega))
          have hq0 : (wr.setCell ⟨g, j, none⟩ (.int .i64 (y + z))).cell? ⟨g, j, none⟩ = some (.int .i64 (y + z)) := by
            have h := (hO.set1 (map_get hgy) (.int .i64 (y + z))).at1 (i := j) (u := .int .i64 (y + z)) (by rw [List.getElem?_set, if_pos rfl, if_pos (by rw [List.length_map]; exact (List.getElem?_eq_some_iff.1 hgy).1)])
            exact h.1
          have HYZ := Lib.hid (And.intro hy hz)
          have hyl := hyb.1
          have hyh := hyb.2
          have hzl := hzb.1
          have hzh := hzb.2
          clear hy hz hyb hzb hrq hgy hgs hO hG6
          by_cases hbig : y + z ≤ 1000000000000
          · have hof := fun W => HO2.out (y + z) W
            rw [outB_in (by omega) hbig] at hof
            have HOF := Lib.hid hof
            have HM2 : Hid (∀ m, m < j + 1 → ∀ y z, r[m]? = some y → q[m]? = some z → y + z ≤ 1000000000000) := Lib.hid (fun m hm y' z' hy' hz' => by
              by_cases hmj : m = j
              · subst hmj
                rw [HYZ.out.1, Option.some.injEq] at hy'
                rw [HYZ.out.2, Option.some.injEq] at hz'
                subst hy' hz'
                exact hbig
              · exact HM.out m (by omega) y' z' hy' hz')
            clear hof hbig
            go_wp2_with fail
            refine (HOF.out _).mono ?_
            rintro e w7 ⟨rfl, hw7⟩
            rw [hw7]
            clear hw7 HOF
            go_wp2_with fail
            go_roundg (s - (j + 1))
            case measure => have := HJ2.out; omega
            case rel => exact ⟨j + 1, by omega, by go_num, HM2, HG6, J1, J2, J3, HW6⟩
          · have hof := fun W => HO2.out (y + z) W
            rw [outB_big (by omega)] at hof
            have HOF := Lib.hid hof
            obtain rfl : E = 2 := by
              rw [← HEE.out]
              exact tooE_yes (joinR_get HRK.out.1 HRK.out.2) (List.mem_of_getElem? (addL_get HYZ.out.1 HYZ.out.2)) (outB_big (by omega))
            have hz := zero_two J3.out 0 (.slice none 0 0)
            have hbz := below_two HW6.out (b := X + 2) (by rw [← HX.out]; omega) (.int .i64 0) (.slice none 0 0)
            obtain ⟨⟨z0, z1⟩, f0, f1⟩ := two_cells J3.out
            have HBZ := Lib.hid hbz
            have HZ := Lib.hid hz
            clear hof hbig hbz hz
            go_wp2_with fail
            refine (HOF.out _).mono ?_
            rintro e w7 ⟨rfl, hw7⟩
            rw [hw7]
            clear hw7 HOF
            go_wp2_with fail
            obtain ⟨y0, y1⟩ := HZ.out
            generalize (((wr.setCell { block := g, off := j } (Value.int IntKind.i64 (y + z))).setCell { block := X + 2, off := 0 } (Value.int IntKind.i64 0)).setCell { block := X + 2, off := 1 } (Value.slice none 0 0)) = w8 at *
            clear z0 z1 f0 f1 e0 e1 hq0
            try simp only [Exit.inBlock, Exit.then]
            refine bodyPost_ret (by simp [results, Try.results13, go_sem, y0, y1, Result.andThen]; try rfl) rfl ?_
            exact ⟨0, none, 0, 0, [], rfl, Or.inr ⟨by decide, rfl, rfl⟩, ⟨[], GT.nilG _ _, rfl⟩, HBZ.out⟩
        · obtain rfl : j = s := by omega
          have hrq : r.length = q.length := by rw [HRL.out.1, HRL.out.2]
          have haa : addTo r q j = addL r q := by
            have h := addTo_all hrq
            rw [HRL.out.2] at h
            exact h
          rw [haa] at HGr
          have HN2 : Hid (∀ m, m < k + 1 → ∀ r q, R[m]? = some r → Q[m]? = some q → ∀ x ∈ addL r q, outB x = false) := Lib.hid (fun m hm r' q' hr' hq' x hx => by
            by_cases hmk : m = k
            · subst hmk
              rw [HRK.out.1, Option.some.injEq] at hr'
              rw [HRK.out.2, Option.some.injEq] at hq'
              subst hr' hq'
              obtain ⟨i, hi⟩ := List.getElem?_of_mem hx
              have hil := (List.getElem?_eq_some_iff.1 hi).1
              rw [addL_len hrq, HRL.out.1] at hil
              have e1 : r[i]? = some (r[i]'(by rw [HRL.out.1]; exact hil)) := List.getElem?_eq_getElem _
              have e2 : q[i]? = some (q[i]'(by rw [HRL.out.2]; exact hil)) := List.getElem?_eq_getElem _
              rw [addL_get e1 e2, Option.some.injEq] at hi
              have k1 := HM.out i hil _ _ e1 e2
              have k2 := HRM.out.1 _ (List.mem_of_getElem? e1)
              have k3 := HRM.out.2 _ (List.mem_of_getElem? e2)
              rw [← hi]
              exact outB_in (by omega) k1
            · exact HN.out m (by omega) r' q' hr' hq' x hx)
          have HLN : Hid ((A ++ (Value.slice (some ⟨g, 0, none⟩) j c, addL r q) :: C).map (fun p => p.2) = joinTo R Q (k + 1)) := Lib.hid (by
            have hRQ : R.length = Q.length := by rw [HL.out.1, HL.out.2]
            rw [List.map_append, List.map_cons, ← HAC.out.1, ← HAC.out.2, List.map_take, List.map_drop, HLR.out, joinTo_succ HRK.out.1 HRK.out.2]
            have e1 : (joinR R Q).take k = (joinTo R Q k).take k := by
              unfold joinTo
              rw [List.take_append_of_le_length (by rw [List.length_take, joinR_len hRQ, HL.out.1]; omega), List.take_take, Nat.min_self]
            have e2 : (joinTo R Q k).drop (k + 1) = R.drop (k + 1) := by
              rw [joinTo_split HRK.out.1, List.drop_append, List.length_take, joinR_len hRQ, HL.out.1, show min k len = k from by omega, List.drop_of_length_le (by rw [List.length_take]; omega), show k + 1 - k = 1 from by omega]
              rfl
            rw [e2, ← e1])
          clear haa hrq
          go_wp2_with fail
          go_roundg (len - (k + 1))
          case measure => have := HJ.out; omega
          case rel => exact ⟨k + 1, _, by omega, by go_num, HLN, HN2, HGr, K1, K2, K3, HW⟩
    · obtain rfl : k = len := by omega
      have hRQ : R.length = Q.length := by rw [HL.out.1, HL.out.2]
      have hall : tooE (joinR R Q) = 0 := tooE_no (fun t ht x hx => by
        obtain ⟨i, hi⟩ := List.getElem?_of_mem ht
        have hil := (List.getElem?_eq_some_iff.1 hi).1
        rw [joinR_len hRQ, HL.out.1] at hil
        have e1 : R[i]? = some (R[i]'(by rw [HL.out.1]; exact hil)) := List.getElem?_eq_getElem _
        have e2 : Q[i]? = some (Q[i]'(by rw [HL.out.2]; exact hil)) := List.getElem?_eq_getElem _
        rw [joinR_get e1 e2, Option.some.injEq] at hi
        subst hi
        exact HN.out i hil _ _ e1 e2 x hx)
      have hgz := (HGr.out.setCell (a := ⟨X + 2, 0, none⟩) HXB.out (.int .i64 s)).setCell (a := ⟨X + 2, 1, none⟩) HXB.out (.slice (some ⟨g0, 0, none⟩) k c0)
      have hll : l.length = k := by have h := HGr.out.out.tab_of.hlen; rw [List.length_map] at h; exact h
      have hjl : joinTo R Q k = joinR R Q := by
        have h := joinTo_all hRQ
        rw [HL.out.1] at h
        exact h
      have HTT := Lib.hid (show GT _ w.heap.size (some ⟨g0, 0, none⟩) k c0 (joinR R Q) from ⟨l, hgz.base_le HW1.out, by rw [HLR.out, hjl]⟩)
      obtain rfl : E = 0 := by rw [← HEE.out]; exact hall
      have hz := zero_two K3.out s (.slice (some ⟨g0, 0, none⟩) k c0)
      have hbz := below_two HW.out (b := X + 2) (by rw [← HX.out]; omega) (.int .i64 s) (.slice (some ⟨g0, 0, none⟩) k c0)
      obtain ⟨⟨z0, z1⟩, f0, f1⟩ := two_cells K3.out
      obtain ⟨⟨b0, b1⟩, _⟩ := two_cells K1.out
      have HBZ := Lib.hid hbz
      have HZ := Lib.hid hz
      clear hbz hz hll hgz hall hjl hRQ
      go_wp2_with fail
      obtain ⟨y0, y1⟩ := HZ.out
      generalize ((wr.setCell { block := X + 2, off := 0 } (Value.int IntKind.i64 s)).setCell { block := X + 2, off := 1 } (Value.slice (some { block := g0, off := 0 }) k c0)) = w8 at *
      clear z0 z1 f0 f1 b0 b1
      try simp only [Exit.inBlock, Exit.then]
      refine bodyPost_ret (by simp [results, Try.results13, go_sem, y0, y1, Result.andThen]; try rfl) rfl ?_
      first
      | exact ⟨s, _, k, c0, rfl, _, ⟨rfl, rfl⟩, HTT.out, HBZ.out⟩
      | exact ⟨s, _, k, c0, _, rfl, Or.inl ⟨rfl, rfl, rfl⟩, HTT.out, HBZ.out⟩
theorem tjoin_ok (s : Nat) (a b : Option Addr) (len cap cap2 : Nat) (R Q : List (List Int)) (P P2 : Nat → Prop) (w : World) (hT : TTx w P a len cap R) (hT2 : TTx w P2 b len cap2 Q) (hG : GoodT s R) (hG2 : GoodT s Q) :
    Calls Try.prog 13 #[.agg #[.int .i64 s, .slice a len cap], .agg #[.int .i64 s, .slice b len cap2]] w fun e w' => ∃ (S : Int) (a' : Option Addr) (l' c' : Nat) (R' : List (List Int)), e = .returned (.tuple #[.agg #[.int .i64 S, .slice a' l' c'], .int .i64 (tooE (joinR R Q))]) ∧ (tooE (joinR R Q) = 0 ∧ S = s ∧ R' = joinR R Q ∨ tooE (joinR R Q) ≠ 0 ∧ S = 0 ∧ R' = []) ∧ TTx w' (fun b => w.heap.size ≤ b) a' l' c' R' ∧ Below w.heap.size w w' := by
  refine (tjoin_grid s a b len cap cap2 R Q P P2 w hT hT2 hG hG2).mono ?_
  rintro e w' ⟨S, a', l', c', R', h1, h2, h3, h4⟩
  exact ⟨S, a', l', c', R', h1, h2, h3.tt, h4⟩

end Go.Proofs.Ytffgoekdjcempab

/- The contract of the program's table.Ask. -/
namespace Go.Proofs.Ytffgoekdjcempab
open Go.ChangeShapes Go.WideShapes Go.ChangeAt Go.RowKit
open Tbl

set_option maxRecDepth 100000 in
set_option maxHeartbeats 2000000 in
theorem task_bad (W : Int) (x : Int) (a : Option Addr) (len cap : Nat) (R : List (List Int)) (P : Nat → Prop) (w : World) (hT : TTx w P a len cap R) (hE : tabE W R ≠ 0) :
    Calls Try.prog 42 #[.agg #[.int .i64 W, .slice a len cap], .int .i64 x] w fun e w' => e = .returned (.tuple #[.int .i64 0, .int .i64 (tabE W R)]) ∧ Below w.heap.size w w' := by
  have hb0 : Below w.heap.size w (w.alloc (.cells #[.int .i64 W, .slice a len cap] 27)) := (Below.refl _ _).alloc (Nat.le_refl _) _
  have k1 := (MapKept.heap_alloc w (.cells #[.int .i64 W, .slice a len cap] 27)).1
  obtain ⟨v0, hv0⟩ : ∃ v, w.alloc (.cells #[.int .i64 W, .slice a len cap] 27) = v := ⟨_, rfl⟩
  rw [hv0] at hb0 k1
  have HC := Lib.hid (tcheck_any W a len cap R P v0 (hT.below hb0))
  have t : (tabE W R != 0) = true := by simpa using hE
  clear hE
  generalize tabE W R = E at *
  have HV := Lib.hid hv0
  have HB0 := Lib.hid hb0
  have K1 := Lib.hid k1
  clear hT hv0 hb0 k1
  go_enter Try.func42, Try.ntmps42
  go_upto_region 1 with fail
  rw [HV.out]
  obtain ⟨X, hX⟩ : ∃ X, w.heap.size = X := ⟨_, rfl⟩
  rw [hX] at K1 ⊢
  have HX := Lib.hid hX
  clear HV hX
  obtain ⟨⟨a0, a1⟩, _⟩ := two_cells K1.out
  go_wp2_with fail
  clear a0 a1
  refine HC.out.mono ?_
  rintro e w1 ⟨rfl, hb1⟩
  have HB1 := Lib.hid (below_on HB0.out hb1)
  clear hb1 HC HB0
  go_wp2_with fail
  go_ret2
  exact ⟨rfl, HB1.out⟩

set_option maxRecDepth 100000 in
set_option maxHeartbeats 2000000 in
theorem task_ok (s : Nat) (x : Int) (a : Option Addr) (len cap : Nat) (R : List (List Int)) (P : Nat → Prop) (w : World) (hT : TTx w P a len cap R) (hG : GoodT s R) :
    Calls Try.prog 42 #[.agg #[.int .i64 s, .slice a len cap], .int .i64 x] w fun e w' => e = .returned (.tuple #[.int .i64 (askR s x R), .int .i64 0]) ∧ Below w.heap.size w w' := by
  have hb0 : Below w.heap.size w (w.alloc (.cells #[.int .i64 s, .slice a len cap] 27)) := (Below.refl _ _).alloc (Nat.le_refl _) _
  have k1 := (MapKept.heap_alloc w (.cells #[.int .i64 s, .slice a len cap] 27)).1
  obtain ⟨v0, hv0⟩ : ∃ v, w.alloc (.cells #[.int .i64 s, .slice a len cap] 27) = v := ⟨_, rfl⟩
  rw [hv0] at hb0 k1
  have hC := tcheck_any s a len cap R P v0 (hT.below hb0)
  rw [tabE_ok hG] at hC
  have HC := Lib.hid hC
  have hl := hT.len
  have h4 : len ≤ 4 := by rw [← hl]; exact hG.n2
  have HCl := Lib.hid (fun (i : Nat) (hi : i ≤ 4) W => column_any s (.slice a len cap) x i hG.s1 hG.s2 hi a len cap rfl W)
  obtain ⟨z, hz⟩ : ∃ z, askR s x R = z := ⟨_, rfl⟩
  rw [hz]
  have HZ := Lib.hid hz
  have HG := Lib.hid hG
  have HL := Lib.hid hl
  have HTT := Lib.hid (hT.below hb0)
  have HV := Lib.hid hv0
  have HB0 := Lib.hid hb0
  have K1 := Lib.hid k1
  clear hT hv0 hb0 k1 hC hl hG hz
  go_enter Try.func42, Try.ntmps42
  go_upto_region 1 with fail
  rw [HV.out]
  obtain ⟨X, hX⟩ : ∃ X, w.heap.size = X := ⟨_, rfl⟩
  rw [hX] at K1 ⊢
  have HX := Lib.hid hX
  clear HV hX
  obtain ⟨⟨a0, a1⟩, _⟩ := two_cells K1.out
  go_wp2_with fail
  clear a0 a1
  refine HC.out.mono ?_
  rintro e w1 ⟨rfl, hb1⟩
  replace K1 := Lib.hid (kept hb1 K1.out)
  replace HTT := Lib.hid (HTT.out.below hb1)
  have HB1 := Lib.hid (below_on HB0.out hb1)
  clear hb1 HC HB0
  obtain ⟨⟨a0, a1⟩, _⟩ := two_cells K1.out
  go_wp2_with fail
  clear a0 a1
  go_loopg [7, 18] len (fun g m i wr => ∃ k : Nat, k + g = len ∧ i = .int .i64 k ∧ m = .int .i64 (((R.mapIdx (fun i r => atR s x i r)).take k).foldl min 1000000000000) ∧ Hid (Below w1.heap.size w1 wr))
  case atStart => exact ⟨0, by omega, rfl, rfl, Lib.hid (Below.refl _ _)⟩
  case round =>
    obtain ⟨k, hk0, rfl, rfl, HW⟩ := hrel
    have HJ := Lib.hid hk0
    have hk : k ≤ len := by omega
    clear hk0
    by_cases hlt : k < len
    · obtain ⟨r, hr⟩ : ∃ r, R[k]? = some r := ⟨_, List.getElem?_eq_getElem (by rw [HL.out]; exact hlt)⟩
      have hrl := HG.out.len r (List.mem_of_getElem? hr)
      obtain ⟨y, hy⟩ := at_some (x := x) (i := k) HG.out.s1 hrl
      have hN := ask_take (s := s) (x := x) hr
      rw [atR_is hy] at hN
      have HN := Lib.hid hN
      obtain ⟨b1, o1, qa, qn, qc, ha, hbs, c0, hTq, hqn, hqc, hqm⟩ := HTT.out.row HW.out hr
      have hcl := colN_lt (x := x) (i := k) HG.out.s1
      obtain ⟨p, hp⟩ : ∃ p, colN s x k = p := ⟨_, rfl⟩
      have HC2 := fun W => HCl.out k (by omega) W
      rw [hp] at HC2 hcl hy
      have HC2 := Lib.hid HC2
      have hpq : p < qn := by rw [← hqn, hrl]; exact hcl
      obtain ⟨⟨d0, d1⟩, _⟩ := two_cells (kept HW.out K1.out)
      have HTQ := Lib.hid hTq
      have HY := Lib.hid hy
      have hqn32 : qn ≤ 32 := by rw [← hqn, hrl]; exact HG.out.s2
      generalize ((R.mapIdx (fun i r => atR s x i r)).take k).foldl min 1000000000000 = m at *
      subst ha
      clear hr hrl hy hN hTq hqn hp hcl
      go_wp2_with fail
      refine (HC2.out _).mono ?_
      rintro e w5 ⟨rfl, hb5⟩
      obtain ⟨b2, o2, ha2, hbs2, e0⟩ := HTQ.out.one hb5 (map_get HY.out)
      have HW5 := Lib.hid (below_on HW.out hb5)
      subst ha2
      clear hb5 d0 d1 c0
      go_wp2_with fail
      all_goals
        go_roundg (len - (k + 1))
        case measure => have := HJ.out; omega
        case rel => exact ⟨k + 1, by omega, by go_num, by rw [HN.out]; exact congrArg (Value.int .i64) (by omega), HW5⟩
    · obtain rfl : k = len := by omega
      have HBW := Lib.hid (below_on HB1.out HW.out)
      obtain ⟨m, hm⟩ : ∃ m, ((R.mapIdx (fun i r => atR s x i r)).take k).foldl min 1000000000000 = m := ⟨_, rfl⟩
      have HM : Hid (m = z) := Lib.hid (by
        rw [← hm, ← HZ.out, List.take_of_length_le (by rw [List.length_mapIdx, HL.out]; exact Nat.le_refl _)]
        rfl)
      rw [hm]
      clear hm
      go_wp2
      go_ret2
      exact ⟨by rw [HM.out]; rfl, HBW.out⟩
end Go.Proofs.Ytffgoekdjcempab

/- The contracts of the program's table.Put, table.Ask and table.Join whatever is handed in; sketches in variables; sketches that are written out. -/
namespace Go.Proofs.Ytffgoekdjcempab
open Go.ChangeShapes Go.WideShapes Go.ChangeAt Go.RowKit
open Tbl

namespace Tbl
theorem putE_zero {W : Int} {R : List (List Int)} {x n : Int} (h : putE W R x n = 0) : ∃ s : Nat, W = s ∧ GoodT s R ∧ (0 ≤ n ∧ n ≤ 1000000000000) ∧ tooE (putR s x n R) = 0 := by
  unfold putE at h
  by_cases h1 : tabE W R ≠ 0
  · rw [if_pos h1] at h; exact absurd h h1
  · rw [if_neg h1] at h
    obtain ⟨s, rfl, hg⟩ := tabE_zero (W := W) (R := R) (by omega)
    cases hn : outB n
    · rw [hn] at h
      rw [if_neg (by simp), Int.toNat_natCast] at h
      exact ⟨s, rfl, hg, outB_no hn, h⟩
    · rw [hn] at h
      rw [if_pos rfl] at h
      cases h
theorem putE_ok {s : Nat} {R : List (List Int)} {x n : Int} (hg : GoodT s R) (h1 : 0 ≤ n) (h2 : n ≤ 1000000000000) : putE s R x n = tooE (putR s x n R) := by
  unfold putE
  rw [if_neg (by rw [tabE_ok hg]; simp), outB_in h1 h2, if_neg (by simp), Int.toNat_natCast]
end Tbl

theorem tput_allG (W x n : Int) (a : Option Addr) (len cap : Nat) (R : List (List Int)) : ∃ (S : Int) (R' : List (List Int)), Hid ((putE W R x n ≠ 0 ∧ S = 0 ∧ R' = []) ∨ (putE W R x n = 0 ∧ ∃ s : Nat, W = s ∧ GoodT s R ∧ (0 ≤ n ∧ n ≤ 1000000000000) ∧ S = s ∧ R' = putR s x n R)) ∧
    Hid (∀ (P : Nat → Prop) (U : World), TTx U P a len cap R → Calls Try.prog 12 #[.agg #[.int .i64 W, .slice a len cap], .int .i64 x, .int .i64 n] U fun e w' => ∃ (a' : Option Addr) (l' c' : Nat), e = .returned (.tuple #[.agg #[.int .i64 S, .slice a' l' c'], .int .i64 (putE W R x n)]) ∧ GT w' U.heap.size a' l' c' R' ∧ Below U.heap.size U w') := by
  by_cases hE : tabE W R ≠ 0
  · have e : putE W R x n = tabE W R := if_pos hE
    rw [e]
    refine ⟨0, [], Lib.hid (Or.inl ⟨hE, rfl, rfl⟩), Lib.hid (fun P U hT => ?_)⟩
    refine (tput_bad W x n a len cap R P U hT hE).mono ?_
    rintro e w' ⟨rfl, hb⟩
    exact ⟨none, 0, 0, rfl, ⟨[], GT.nilG _ _, rfl⟩, hb⟩
  · obtain ⟨s, rfl, hg⟩ := tabE_zero (W := W) (R := R) (by omega)
    cases hn : outB n
    · obtain ⟨h1, h2⟩ := outB_no hn
      rw [putE_ok hg h1 h2]
      by_cases ht : tooE (putR s x n R) = 0
      · refine ⟨s, putR s x n R, Lib.hid (Or.inr ⟨ht, s, rfl, hg, ⟨h1, h2⟩, rfl, rfl⟩), Lib.hid (fun P U hT => ?_)⟩
        refine (tput_grid s x n a len cap R P U hT hg h1 h2).mono ?_
        rintro e w' ⟨S, a', l', c', R', rfl, ⟨_, rfl, rfl⟩ | ⟨h, _⟩, htt, hb⟩
        · exact ⟨a', l', c', rfl, htt, hb⟩
        · exact absurd ht h
      · refine ⟨0, [], Lib.hid (Or.inl ⟨ht, rfl, rfl⟩), Lib.hid (fun P U hT => ?_)⟩
        refine (tput_grid s x n a len cap R P U hT hg h1 h2).mono ?_
        rintro e w' ⟨S, a', l', c', R', rfl, ⟨h, _⟩ | ⟨_, rfl, rfl⟩, htt, hb⟩
        · exact absurd h ht
        · exact ⟨a', l', c', rfl, htt, hb⟩
    · have e : putE (s : Int) R x n = 1 := by
        unfold putE
        rw [if_neg (by rw [tabE_ok hg]; simp), hn, if_pos rfl]
      rw [e]
      refine ⟨0, [], Lib.hid (Or.inl ⟨by decide, rfl, rfl⟩), Lib.hid (fun P U hT => ?_)⟩
      refine (tput_arg s x n a len cap R P U hT (tabE_ok hg) hn).mono ?_
      rintro e w' ⟨rfl, hb⟩
      exact ⟨none, 0, 0, rfl, ⟨[], GT.nilG _ _, rfl⟩, hb⟩
theorem tput_all (W x n : Int) (a : Option Addr) (len cap : Nat) (R : List (List Int)) : ∃ (S : Int) (R' : List (List Int)), Hid ((putE W R x n ≠ 0 ∧ S = 0 ∧ R' = []) ∨ (putE W R x n = 0 ∧ ∃ s : Nat, W = s ∧ GoodT s R ∧ (0 ≤ n ∧ n ≤ 1000000000000) ∧ S = s ∧ R' = putR s x n R)) ∧
    Hid (∀ (P : Nat → Prop) (U : World), TTx U P a len cap R → Calls Try.prog 12 #[.agg #[.int .i64 W, .slice a len cap], .int .i64 x, .int .i64 n] U fun e w' => ∃ (a' : Option Addr) (l' c' : Nat), e = .returned (.tuple #[.agg #[.int .i64 S, .slice a' l' c'], .int .i64 (putE W R x n)]) ∧ TTx w' (fun b => U.heap.size ≤ b) a' l' c' R' ∧ Below U.heap.size U w') := by
  obtain ⟨S, R', h1, h2⟩ := tput_allG W x n a len cap R
  refine ⟨S, R', h1, Lib.hid (fun P U hT => (h2.out P U hT).mono ?_)⟩
  rintro e w' ⟨a', l', c', h3, h4, h5⟩
  exact ⟨a', l', c', h3, h4.tt, h5⟩

theorem task_all (W x : Int) (a : Option Addr) (len cap : Nat) (R : List (List Int)) : ∃ z : Int, Hid ((tabE W R ≠ 0 ∧ z = 0) ∨ (tabE W R = 0 ∧ ∃ s : Nat, W = s ∧ GoodT s R ∧ z = askR s x R)) ∧
    Hid (∀ (P : Nat → Prop) (U : World), TTx U P a len cap R → Calls Try.prog 42 #[.agg #[.int .i64 W, .slice a len cap], .int .i64 x] U fun e w' => e = .returned (.tuple #[.int .i64 z, .int .i64 (tabE W R)]) ∧ Below U.heap.size U w') := by
  by_cases hE : tabE W R ≠ 0
  · refine ⟨0, Lib.hid (Or.inl ⟨hE, rfl⟩), Lib.hid (fun P U hT => ?_)⟩
    exact task_bad W x a len cap R P U hT hE
  · obtain ⟨s, rfl, hg⟩ := tabE_zero (W := W) (R := R) (by omega)
    rw [tabE_ok hg]
    exact ⟨_, Lib.hid (Or.inr ⟨rfl, s, rfl, hg, rfl⟩), Lib.hid (fun P U hT => task_ok s x a len cap R P U hT hg)⟩

theorem tjoin_allG (W V : Int) (a b : Option Addr) (len cap len2 cap2 : Nat) (R Q : List (List Int)) : ∃ (S : Int) (R' : List (List Int)), Hid ((joinE W R V Q ≠ 0 ∧ S = 0 ∧ R' = []) ∨ (joinE W R V Q = 0 ∧ ∃ s : Nat, W = s ∧ V = s ∧ GoodT s R ∧ GoodT s Q ∧ R.length = Q.length ∧ S = s ∧ R' = joinR R Q)) ∧
    Hid (∀ (P P2 : Nat → Prop) (U : World), TTx U P a len cap R → TTx U P2 b len2 cap2 Q → Calls Try.prog 13 #[.agg #[.int .i64 W, .slice a len cap], .agg #[.int .i64 V, .slice b len2 cap2]] U fun e w' => ∃ (a' : Option Addr) (l' c' : Nat), e = .returned (.tuple #[.agg #[.int .i64 S, .slice a' l' c'], .int .i64 (joinE W R V Q)]) ∧ GT w' U.heap.size a' l' c' R' ∧ Below U.heap.size U w') := by
  by_cases hbad : tabE W R ≠ 0 ∨ tabE V Q ≠ 0 ∨ W ≠ V ∨ R.length ≠ Q.length
  · have e : joinE W R V Q = (if tabE W R ≠ 0 then tabE W R else if tabE V Q ≠ 0 then tabE V Q else 7) ∧ joinE W R V Q ≠ 0 := by
      unfold joinE
      by_cases h1 : tabE W R ≠ 0
      · rw [if_pos h1, if_pos h1]; exact ⟨rfl, h1⟩
      · rw [if_neg h1, if_neg h1]
        by_cases h2 : tabE V Q ≠ 0
        · rw [if_pos h2, if_pos h2]; exact ⟨rfl, h2⟩
        · rw [if_neg h2, if_neg h2, if_pos (by rcases hbad with h | h | h; exact absurd h h1; exact absurd h h2; exact h)]
          exact ⟨rfl, by decide⟩
    refine ⟨0, [], Lib.hid (Or.inl ⟨e.2, rfl, rfl⟩), Lib.hid (fun P P2 U hT hT2 => ?_)⟩
    refine (tjoin_bad W V a b len cap len2 cap2 R Q P P2 U hT hT2 hbad).mono ?_
    rintro e' w' ⟨rfl, hb⟩
    rw [e.1]
    exact ⟨none, 0, 0, rfl, ⟨[], GT.nilG _ _, rfl⟩, hb⟩
  · have h1 : tabE W R = 0 := by
      by_cases h : tabE W R = 0
      · exact h
      · exact absurd (Or.inl h) hbad
    have h2 : tabE V Q = 0 := by
      by_cases h : tabE V Q = 0
      · exact h
      · exact absurd (Or.inr (Or.inl h)) hbad
    have h3 : W = V := by
      by_cases h : W = V
      · exact h
      · exact absurd (Or.inr (Or.inr (Or.inl h))) hbad
    have h4 : R.length = Q.length := by
      by_cases h : R.length = Q.length
      · exact h
      · exact absurd (Or.inr (Or.inr (Or.inr h))) hbad
    subst h3
    obtain ⟨s, rfl, hg⟩ := tabE_zero h1
    obtain ⟨s2, hs, hg2⟩ := tabE_zero h2
    obtain rfl : s2 = s := by omega
    have e : joinE (s2 : Int) R s2 Q = tooE (joinR R Q) := by
      unfold joinE
      rw [if_neg (by rw [h1]; simp), if_neg (by rw [h2]; simp), if_neg (by rw [h4]; simp)]
    rw [e]
    have hlen : ∀ {P P2 : Nat → Prop} {U : World}, TTx U P a len cap R → TTx U P2 b len2 cap2 Q → len2 = len := fun k1 k2 => by rw [← k1.len, ← k2.len, h4]
    by_cases ht : tooE (joinR R Q) = 0
    · refine ⟨s2, joinR R Q, Lib.hid (Or.inr ⟨ht, s2, rfl, rfl, hg, hg2, h4, rfl, rfl⟩), Lib.hid (fun P P2 U hT hT2 => ?_)⟩
      obtain rfl := hlen hT hT2
      refine (tjoin_grid s2 a b len2 cap cap2 R Q P P2 U hT hT2 hg hg2).mono ?_
      rintro e w' ⟨S, a', l', c', R', rfl, ⟨_, rfl, rfl⟩ | ⟨h, _⟩, htt, hb⟩
      · exact ⟨a', l', c', rfl, htt, hb⟩
      · exact absurd ht h
    · refine ⟨0, [], Lib.hid (Or.inl ⟨ht, rfl, rfl⟩), Lib.hid (fun P P2 U hT hT2 => ?_)⟩
      obtain rfl := hlen hT hT2
      refine (tjoin_grid s2 a b len2 cap cap2 R Q P P2 U hT hT2 hg hg2).mono ?_
      rintro e w' ⟨S, a', l', c', R', rfl, ⟨h, _⟩ | ⟨_, rfl, rfl⟩, htt, hb⟩
      · exact absurd h ht
      · exact ⟨a', l', c', rfl, htt, hb⟩
theorem tjoin_all (W V : Int) (a b : Option Addr) (len cap len2 cap2 : Nat) (R Q : List (List Int)) : ∃ (S : Int) (R' : List (List Int)), Hid ((joinE W R V Q ≠ 0 ∧ S = 0 ∧ R' = []) ∨ (joinE W R V Q = 0 ∧ ∃ s : Nat, W = s ∧ V = s ∧ GoodT s R ∧ GoodT s Q ∧ R.length = Q.length ∧ S = s ∧ R' = joinR R Q)) ∧
    Hid (∀ (P P2 : Nat → Prop) (U : World), TTx U P a len cap R → TTx U P2 b len2 cap2 Q → Calls Try.prog 13 #[.agg #[.int .i64 W, .slice a len cap], .agg #[.int .i64 V, .slice b len2 cap2]] U fun e w' => ∃ (a' : Option Addr) (l' c' : Nat), e = .returned (.tuple #[.agg #[.int .i64 S, .slice a' l' c'], .int .i64 (joinE W R V Q)]) ∧ TTx w' (fun b => U.heap.size ≤ b) a' l' c' R' ∧ Below U.heap.size U w') := by
  obtain ⟨S, R', h1, h2⟩ := tjoin_allG W V a b len cap len2 cap2 R Q
  refine ⟨S, R', h1, Lib.hid (fun P P2 U hT hT2 => (h2.out P P2 U hT hT2).mono ?_)⟩
  rintro e w' ⟨a', l', c', h3, h4, h5⟩
  exact ⟨a', l', c', h3, h4.tt, h5⟩

namespace Tbl
/-- a sketch in a variable that is written no more -/
def ST (w : World) (X : Nat) (W : Int) (q : Option Addr) (n c : Nat) (R : List (List Int)) : Prop := w.heap[X]? = some (.cells #[.int .i64 W, .slice q n c] 27 (0, 0)) ∧ TTx w anyB q n c R
theorem ST.below {w w' : World} {X : Nat} {W : Int} {q : Option Addr} {n c : Nat} {R : List (List Int)} (h : ST w X W q n c R) (hb : Below w.heap.size w w') : ST w' X W q n c R := ⟨kept hb h.1, h.2.below hb⟩
theorem ST.new {w : World} {P : Nat → Prop} {W : Int} {q : Option Addr} {n c : Nat} {R : List (List Int)} (h : TTx w P q n c R) : ST (w.alloc (.cells #[.int .i64 W, .slice q n c] 27)) w.heap.size W q n c R ∧ Below w.heap.size w (w.alloc (.cells #[.int .i64 W, .slice q n c] 27)) :=
  have hb : Below w.heap.size w (w.alloc (.cells #[.int .i64 W, .slice q n c] 27)) := (Below.refl _ _).alloc (Nat.le_refl _) _
  ⟨⟨(MapKept.heap_alloc w _).1, h.any.below hb⟩, hb⟩
theorem ST.cells {w : World} {X : Nat} {W : Int} {q : Option Addr} {n c : Nat} {R : List (List Int)} (h : ST w X W q n c R) : w.cell? ⟨X, 0, none⟩ = some (.int .i64 W) ∧ w.cell? ⟨X, 1, none⟩ = some (.slice q n c) := (two_cells h.1).1
/-- [][]int{{n}} -/
theorem tt_one (w : World) (n : Int) : TTx ((w.alloc (.cells #[.int .i64 n] 3)).alloc (.cells #[.slice (some ⟨w.heap.size, 0, none⟩) 1 1] 53)) anyB (some ⟨w.heap.size + 1, 0, none⟩) 1 1 [[n]] := by
  have h1 := tab_lit w 3 1 1 ([n].map iC) #[.int .i64 n] rfl rfl (rows_of iC_len _) (by decide) _ rfl
  have h2 := tab_lit (w.alloc (.cells #[.int .i64 n] 3)) 53 1 1 ([(⟨some ⟨w.heap.size, 0, none⟩, 1, 1, [n]⟩ : Sl Int)].map slC) #[.slice (some ⟨w.heap.size, 0, none⟩) 1 1] rfl rfl (by intro r hr; obtain ⟨y, _, rfl⟩ := List.mem_map.1 hr; rfl) (by decide) (w.heap.size + 1) (by simp)
  refine TTx.of h2 (fun s hs => ?_)
  rw [List.mem_singleton] at hs
  subst hs
  exact h1.below ((Below.refl _ _).alloc (Nat.le_refl _) _)
/-- [][]int{{n}, {m}} -/
theorem tt_two (w : World) (n m : Int) : TTx (((w.alloc (.cells #[.int .i64 n] 3)).alloc (.cells #[.int .i64 m] 3)).alloc (.cells #[.slice (some ⟨w.heap.size, 0, none⟩) 1 1, .slice (some ⟨w.heap.size + 1, 0, none⟩) 1 1] 53)) anyB (some ⟨w.heap.size + 2, 0, none⟩) 2 2 [[n], [m]] := by
  have h1 := tab_lit w 3 1 1 ([n].map iC) #[.int .i64 n] rfl rfl (rows_of iC_len _) (by decide) _ rfl
  have h2 := tab_lit (w.alloc (.cells #[.int .i64 n] 3)) 3 1 1 ([m].map iC) #[.int .i64 m] rfl rfl (rows_of iC_len _) (by decide) (w.heap.size + 1) (by simp)
  have h3 := tab_lit ((w.alloc (.cells #[.int .i64 n] 3)).alloc (.cells #[.int .i64 m] 3)) 53 1 2 ([(⟨some ⟨w.heap.size, 0, none⟩, 1, 1, [n]⟩ : Sl Int), ⟨some ⟨w.heap.size + 1, 0, none⟩, 1, 1, [m]⟩].map slC) #[.slice (some ⟨w.heap.size, 0, none⟩) 1 1, .slice (some ⟨w.heap.size + 1, 0, none⟩) 1 1] rfl rfl (by intro r hr; obtain ⟨y, _, rfl⟩ := List.mem_map.1 hr; rfl) (by decide) (w.heap.size + 2) (by simp)
  refine TTx.of h3 (fun s hs => ?_)
  rcases List.mem_cons.1 hs with rfl | hs
  · exact (h1.below ((Below.refl _ _).alloc (Nat.le_refl _) _)).below ((Below.refl _ _).alloc (Nat.le_refl _) _)
  · rw [List.mem_singleton] at hs
    subst hs
    exact h2.below ((Below.refl _ _).alloc (Nat.le_refl _) _)
theorem col_one (x : Int) (i : Nat) : colN 1 x i = 0 := by
  have := colN_lt (s := 1) (x := x) (i := i) (by decide)
  omega
theorem good_one {n : Int} (h1 : 0 ≤ n) (h2 : n ≤ 1000000000000) : GoodT 1 [[n]] :=
  ⟨by decide, by decide, by simp, by simp, fun r hr => by rw [List.mem_singleton.1 hr]; rfl, fun r hr x hx => by
    rw [List.mem_singleton] at hr
    subst hr
    rw [List.mem_singleton] at hx
    subst hx
    exact ⟨h1, h2⟩⟩
theorem good_two {n m : Int} (h1 : 0 ≤ n ∧ n ≤ 1000000000000) (h2 : 0 ≤ m ∧ m ≤ 1000000000000) : GoodT 1 [[n], [m]] :=
  ⟨by decide, by decide, by simp, by simp, fun r hr => by
    rcases List.mem_cons.1 hr with rfl | hr
    · rfl
    · rw [List.mem_singleton.1 hr]; rfl, fun r hr x hx => by
    rcases List.mem_cons.1 hr with rfl | hr
    · rw [List.mem_singleton] at hx; subst hx; exact h1
    · rw [List.mem_singleton] at hr; subst hr; rw [List.mem_singleton] at hx; subst hx; exact h2⟩
end Tbl
end Go.Proofs.Ytffgoekdjcempab
