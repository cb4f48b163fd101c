/- The contract of the laws' own rows (culkeep.rows): an empty sketch of some width and number of rows. -/
import Derived.Test.YtcfejbhoeichnaaTabAll
import Derived.Test.YtcfejbhoeichnaaWithin
import Derived.Test.YtcfejbhoeichnaaStepRows
namespace Go.Proofs.Ytcfejbhoeichnaa
open Go.ChangeShapes Go.WideShapes Go.ChangeAt Go.RowKit
open Tbl

theorem step_append_rows_at {P : Program} (w : World) {ops : Array Oper} {o : Oper} {a : Act} {K : Act → World → Prop} {Q : Exit → Act → World → Prop} {E : Prop} (hgd : o.guard = none) (s x : Operand) (t : TypeId)
    (ho : o.op = .call { callee := .builtin .append, args := #[s, x], argTypes := #[t, t] })
    (base : Nat) (e : TypeId) (z : Value) (k bytes : Nat) (ht : P.underlying t = some (.slice e)) (hinfo : (P.info? e).map (fun i => (i.zero, i.size, i.bytes)) = some (some z, k, bytes)) (hzs : z.cells.size = k) (hsz : 0 < k)
    (v : Value) (R : List (List Value)) (hs : a.eval s = v) (hown : Own w base e k v R)
    (ad : Addr) (m c : Nat) (N : List (List Value)) (hm0 : 0 < m) (hm : N.length = m) (hx : a.eval x = .slice (some ad) m c) (hN : ∀ r ∈ N, r.length = k) (hnews : ∀ j u, N.flatten[j]? = some u → w.cell? (ad.add j) = some u) (h1 : ∀ u ∈ N.flatten, u.oneCell' = true)
    (h63 : (R.length + m) * bytes ≤ 140737488355328) (hby : 0 < bytes) (hbase : base ≤ w.heap.size)
    (h : ∀ g cap w', Own w' base e k (.slice (some ⟨g, 0, none⟩) (R.length + m) cap) (R ++ N) → w.grownBy w' v.ownBlock → (v.ownBlock = some g ∨ g = w.heap.size) → K (a.put o.dst (.slice (some ⟨g, 0, none⟩) (R.length + m) cap)) w') :
    if Region.wanted o (yielded ops a.tmps) = true then Oper.wp P o a w K Q else E := by
  obtain ⟨i, hi, hz0, hz1, hz2⟩ := info_parts hinfo
  subst hm
  refine step_append_lies w hgd s x t ho base e i z k bytes ht hi hz0 hz1 hz2 hzs hsz v R.length R.flatten hs hown.own ad N.length c N.flatten hx (flatten_len hN) hnews h1 hm0 ?_ h63 hbase _ rfl ?_
  · have := Nat.le_trans (Nat.le_mul_of_pos_right (R.length + N.length) hby) h63
    unfold maxLen; omega
  · intro g cap w' h2 h3 h4 _
    refine h g cap w' ⟨?_, ?_⟩ h3 h4
    · rw [List.length_append, List.flatten_append]; exact h2
    · intro r hr
      rcases List.mem_append.1 hr with hr | hr
      · exact hown.rows r hr
      · exact hN r hr

namespace Tbl
def widB (a : Int) : Nat := (1 + withI a 32).toNat
def rowB (a : Int) : Nat := (1 + withI a 4).toNat
theorem widB_bd (a : Int) : ((widB a : Nat) : Int) = 1 + withI a 32 ∧ 1 ≤ widB a ∧ widB a ≤ 32 := by
  have := withI_bd a 32 (by omega)
  unfold widB
  omega
theorem rowB_bd (a : Int) : ((rowB a : Nat) : Int) = 1 + withI a 4 ∧ 1 ≤ rowB a ∧ rowB a ≤ 4 := by
  have := withI_bd a 4 (by omega)
  unfold rowB
  omega
/-- an empty sketch -/
def zeroR (s m : Nat) : List (List Int) := List.replicate m (List.replicate s 0)
theorem zero_good {s m : Nat} (h1 : 1 ≤ s) (h2 : s ≤ 32) (h3 : 1 ≤ m) (h4 : m ≤ 4) : GoodT s (zeroR s m) :=
  ⟨h1, h2, by simp [zeroR]; exact h3, by simp [zeroR]; exact h4, fun r hr => by rw [List.eq_of_mem_replicate hr]; simp, fun r hr x hx => by
    rw [List.eq_of_mem_replicate hr] at hx
    rw [List.eq_of_mem_replicate hx]
    omega⟩
theorem made_run32 (n : Nat) (hn : n ≤ 32) (W : World) : (Instr.makeSlice 34 (.int .i64 (n : Int)) (.int .i64 (n : Int))).run Try.prog W = .ok (.slice (some ⟨W.heap.size, 0, none⟩) n n) (W.alloc (.cells (madeCells (Value.int .i64 0).cells (n * 1)) 3)) := by
  obtain ⟨i0, hi, hz0, hz1, hz2⟩ := info_parts info_int
  have hr := run_make (P := Try.prog) W 34 3 i0 (.int .i64 0) Try.underlying34 hi hz0 .i64 .i64 n n (by omega) (Int.le_refl _) (by rw [hz2]; omega) (by omega)
  rw [hz1] at hr
  simpa using hr
theorem made_own32 (W : World) (b n : Nat) (hb : b ≤ W.heap.size) (h : n ≤ maxLen) : Own (W.alloc (.cells (madeCells (Value.int .i64 0).cells (n * 1)) 3)) b 3 1 (.slice (some ⟨W.heap.size, 0, none⟩) n n) ((List.replicate n (0 : Int)).map iC) :=
  Own.full (World.ownsRow_lit W _ n hb h (size_madeCells _ _)) (made_ints n)
theorem Grid.push {w w1 w6 : World} {B : Nat} {v : Value} {l : List (Value × List Int)} (h : Grid w B v l) {G n c : Nat} {L : List Int} (hU : Own w1 B 3 1 (.slice (some ⟨G, 0, none⟩) n c) (L.map iC)) (hb : Below w.heap.size w w1) (hG : w.heap.size ≤ G) (hG2 : G < w1.heap.size)
    {g6 n6 c6 : Nat} (hO6 : Own w6 B 34 1 (.slice (some ⟨g6, 0, none⟩) n6 c6) (l.map (fun p => [p.1]) ++ [[.slice (some ⟨G, 0, none⟩) n c]])) (hg6 : w1.grownBy w6 v.ownBlock) (hat : v.ownBlock = some g6 ∨ g6 = w1.heap.size) :
    Grid w6 B (.slice (some ⟨g6, 0, none⟩) n6 c6) (l ++ [(.slice (some ⟨G, 0, none⟩) n c, L)]) := by
  have hold : ∀ p ∈ l, ∀ b, p.1.ownBlock = some b → b < w.heap.size := fun p hp b hb' => ((h.inn.own p hp).own.lt b hb').2
  have hv : ∀ b, v.ownBlock = some b → b < w.heap.size := fun b hb' => (h.out.own.lt b hb').2
  have hs := hb.size
  refine ⟨by rw [List.map_append]; exact hO6, ⟨fun p hp => ?_, ?_⟩, fun p hp => ?_⟩
  · rcases List.mem_append.1 hp with hp | hp
    · exact ((h.inn.own p hp).below hb).keptBy hg6 (h.off p hp).symm.or
    · rw [List.mem_singleton] at hp
      subst hp
      refine hU.keptBy hg6 (Or.inr (fun hx => ?_))
      have := hv G hx.symm
      omega
  · rw [List.pairwise_append]
    refine ⟨h.inn.apart, List.pairwise_singleton _ _, fun p hp q hq b h1 h2 => ?_⟩
    rw [List.mem_singleton] at hq
    subst hq
    have k1 := hold p hp b h1
    have k2 : b = G := by simpa [Value.ownBlock] using h2.symm
    omega
  · intro b h1 h2
    have k1 : b = g6 := by simpa [Value.ownBlock] using h1.symm
    subst k1
    rcases List.mem_append.1 hp with hp | hp
    · rcases hat with hat | hat
      · exact h.off p hp _ hat h2
      · have := hold p hp _ h2
        omega
    · rw [List.mem_singleton] at hp
      subst hp
      have k2 : G = b := by simpa [Value.ownBlock] using h2
      rcases hat with hat | hat
      · have := hv _ hat
        omega
      · omega
theorem Grid.nil (w : World) (B : Nat) : Grid w B (.slice none 0 0) [] := ⟨Own.nil _ _ _ _, Many.nil _ _ _, fun p hp => by cases hp⟩
end Tbl

set_option maxRecDepth 100000 in
set_option maxHeartbeats 4000000 in
theorem rows_any (a b : Int) (w : World) (ha : -9223372036854775808 ≤ a ∧ a ≤ 9223372036854775807) (hb : -9223372036854775808 ≤ b ∧ b ≤ 9223372036854775807) :
    Calls Try.prog 30 #[.int .i64 a, .int .i64 b] w fun e w' => ∃ (q : Option Addr) (c : Nat), e = .returned (.agg #[.int .i64 (widB a : Nat), .slice q (rowB b) c]) ∧ TTx w' (fun b => w.heap.size ≤ b) q (rowB b) c (zeroR (widB a) (rowB b)) ∧ Below w.heap.size w w' := by
  have HW1 := Lib.hid (fun W => within_int a 32 W ha (by omega) (by omega))
  have HW2 := Lib.hid (fun W => within_int b 4 W hb (by omega) (by omega))
  have e1 := widB_bd a
  have e2 := rowB_bd b
  have z1 := withI_bd a 32 (by omega)
  have z2 := withI_bd b 4 (by omega)
  generalize widB a = s at *
  generalize rowB b = m at *
  generalize withI a 32 = A at *
  generalize withI b 4 = C at *
  have HS := Lib.hid e1.1.symm
  have HM := Lib.hid e2.1.symm
  have s1 := e1.2.1
  have s2 := e1.2.2
  have m1 := e2.2.1
  have m2 := e2.2.2
  have hmk := fun W => made_run32 s s2 W
  have hmo := fun W b hb => made_own32 W b s hb (by unfold maxLen; omega)
  obtain ⟨ZZ, hZ⟩ : ∃ Z, madeCells (Value.int .i64 0).cells (s * 1) = Z := ⟨_, rfl⟩
  rw [hZ] at hmk hmo
  have HMO := Lib.hid hmo
  have hb0 : Below w.heap.size w ((w.alloc (.cells #[.int .i64 0, .slice none 0 0] 39)).alloc (.cells #[.int .i64 s, .slice none 0 0] 39)) := ((Below.refl _ _).alloc (Nat.le_refl _) _).alloc (by simp) _
  have k1 : ((w.alloc (.cells #[.int .i64 0, .slice none 0 0] 39)).alloc (.cells #[.int .i64 s, .slice none 0 0] 39)).heap[w.heap.size]? = some (.cells #[.int .i64 0, .slice none 0 0] 39 (0, 0)) := (boxes_new _ _ _).trans (MapKept.heap_alloc w _).1
  have k2 : ((w.alloc (.cells #[.int .i64 0, .slice none 0 0] 39)).alloc (.cells #[.int .i64 s, .slice none 0 0] 39)).heap[w.heap.size + 1]? = some (.cells #[.int .i64 s, .slice none 0 0] 39 (0, 0)) := (boxes_snd _ _ _).trans (MapKept.heap_alloc _ _).1
  obtain ⟨v0, hv0⟩ : ∃ v, ((w.alloc (.cells #[.int .i64 0, .slice none 0 0] 39)).alloc (.cells #[.int .i64 s, .slice none 0 0] 39)) = v := ⟨_, rfl⟩
  rw [hv0] at hb0 k1 k2
  have HV0 := Lib.hid hv0
  have HB0 := Lib.hid hb0
  have K1 := Lib.hid k1
  have K2 := Lib.hid k2
  have hw1 : IntKind.i64.wrap (1 + A) = (s : Int) := by rw [HS.out, IntKind.wrap_i64]; omega
  have hw2 : IntKind.i64.wrap (1 + C) = (m : Int) := by rw [HM.out, IntKind.wrap_i64]; omega
  have HW3 := Lib.hid (And.intro hw1 hw2)
  clear ha hb e1 e2 hZ hmo hv0 hb0 k1 k2 hw1 hw2
  go_enter Try.func30, Try.ntmps30
  go_wp2_with fail
  refine (HW1.out _).mono ?_
  rintro e v1 ⟨rfl, hv1⟩
  rw [← hv1]
  clear hv1 HW1
  go_upto_region 2 with fail
  rw [HS.out]
  rw [HV0.out]
  obtain ⟨X, hX⟩ : ∃ X, w.heap.size = X := ⟨_, rfl⟩
  have HX := Lib.hid hX
  rw [hX] at K1 K2 ⊢
  clear HV0 hX HS
  go_wp2_with fail
  refine (HW2.out _).mono ?_
  rintro e v2 ⟨rfl, hv2⟩
  rw [← hv2]
  clear hv2 HW2
  go_upto_region 3 with fail
  rw [HM.out]
  clear HM z1 z2 HW3
  go_wp2_with fail
  go_loopg [13] m (fun g i wr => ∃ (k : Nat) (v : Value) (l : List (Value × List Int)), k + g = m ∧ i = .int .i64 k ∧ Hid (wr.heap[X]? = some (.cells #[.int .i64 0, .slice none 0 0] 39 (0, 0))) ∧ Hid (wr.heap[X + 1]? = some (.cells #[.int .i64 s, v] 39 (0, 0))) ∧ Hid (l.map (fun p => p.2) = zeroR s k) ∧ Hid (Grid wr (X + 2) v l) ∧ Hid (Below w.heap.size w wr))
  case atStart => exact ⟨0, _, [], by omega, rfl, K1, K2, Lib.hid rfl, Lib.hid (Grid.nil _ _), HB0⟩
  case round =>
    clear K1 K2 HB0
    obtain ⟨k, v, l, hk0, rfl, K1, K2, HLR, HG, HW⟩ := hrel
    have HJ := Lib.hid hk0
    have hk : k ≤ m := by omega
    clear hk0
    have hll : l.length = k := by
      have h := congrArg List.length HLR.out
      rw [List.length_map] at h
      rw [h]; simp [zeroR]
    have HLL := Lib.hid hll
    clear hll
    by_cases hlt : k < m
    · obtain ⟨wo, hwo⟩ : ∃ wo, wo = wr := ⟨_, rfl⟩
      subst hwo
      have hXs : X + 1 < wo.heap.size := (Array.getElem?_eq_some_iff.1 K2.out).1
      have HXS := Lib.hid hXs
      obtain ⟨⟨c0, c1⟩, f0, f1⟩ := two_cells K2.out
      have ha1 : Below wo.heap.size wo (wo.alloc (.cells ZZ 3)) := (Below.refl _ _).alloc (Nat.le_refl _) _
      have ha2 : Below wo.heap.size wo ((wo.alloc (.cells ZZ 3)).alloc (.cells #[.slice (some ⟨wo.heap.size, 0, none⟩) s s] 34)) := ha1.alloc (by simp) _
      obtain ⟨⟨d0, d1⟩, _⟩ := two_cells (kept ha1 K2.out)
      obtain ⟨⟨e0, e1⟩, _⟩ := two_cells (kept ha2 K2.out)
      have HA2 := Lib.hid ha2
      have HOU : Hid (Own ((wo.alloc (.cells ZZ 3)).alloc (.cells #[.slice (some ⟨wo.heap.size, 0, none⟩) s s] 34)) (X + 2) 3 1 (.slice (some ⟨wo.heap.size, 0, none⟩) s s) ((List.replicate s (0 : Int)).map iC)) := Lib.hid ((HMO.out wo (X + 2) (by omega)).alloc _)
      have HLM : Hid ((l.map (fun p => [p.1])).length = k) := Lib.hid (by rw [List.length_map]; exact HLL.out)
      have hk2 : Below wo.heap.size wo ((wo.alloc (.cells ZZ 3)).alloc (.cells #[.slice (some ⟨wo.heap.size, 0, none⟩) s s] 34)).drew := ha2.drew
      have HK2 := Lib.hid (kept hk2 K2.out)
      have HKB := Lib.hid hk2
      clear ha1 ha2 hk2
      go_wp2_with fail
      go_region_law (first
        | (refine step_append_rows_at _ rfl _ _ 37 rfl (X + 2) 34 _ 1 24 Try.underlying37 info_slints rfl (by decide) v (l.map (fun p => [p.1])) (by simp [Act.eval, Act.put]) (by first | exact ((HG.out.out.alloc _).alloc _).drew | exact (HG.out.out.alloc _).alloc _) ⟨wo.heap.size + 1, 0, none⟩ 1 1 [[.slice (some ⟨wo.heap.size, 0, none⟩) s s]] (by decide) rfl (by simp [Act.eval, Act.put]) (by simp) (one_row _ [.slice (some ⟨wo.heap.size, 0, none⟩) s s] 34 _ (by simp)) (by simp [Value.oneCell']) (by rw [HLM.out]; omega) (by decide) (by have := HXS.out; simp; omega) ?_; intro g6 c6 w6 hO6 hg6 hat6; have hy6 := Lib.hid ((hg6.block (X + 1) (by have := HXS.out; simp; omega) (fun e => by have := (HG.out.out.own.lt (X + 1) e.symm).1; omega)).trans HK2.out); obtain ⟨⟨p0, p1⟩, p2, p3⟩ := two_cells hy6.out))
      all_goals
        have hx6 := Lib.hid ((hg6.block X (by have := HXS.out; simp; omega) (fun e => by have := (HG.out.out.own.lt X e.symm).1; omega)).trans (kept HKB.out K1.out))
        have hP := HG.out.push (w1 := ((wo.alloc (.cells ZZ 3)).alloc (.cells #[.slice (some ⟨wo.heap.size, 0, none⟩) s s] 34)).drew) HOU.out.drew HKB.out (Nat.le_refl _) (by first | (simp; done) | (simp; omega) | (show wo.heap.size < ((wo.alloc _).alloc _).heap.size; simp; omega)) hO6 hg6 (by first | exact hat6 | simpa using hat6)
        have hu6 := (HG.out.out.below HKB.out).under (below_on HW.out HKB.out) (by rw [HX.out]; omega) (by have := HXS.out; rw [HX.out]; simp; omega) hg6
        rw [List.length_map, HLL.out] at hP
        have HP := Lib.hid (hP.setCell (a := ⟨X + 1, 1, none⟩) (by show X + 1 < X + 2; omega) (.slice (some ⟨g6, 0, none⟩) (k + 1) c6))
        have HU6 := Lib.hid (hu6.setCell (p := ⟨X + 1, 1, none⟩) (by rw [HX.out]; show X ≤ X + 1; omega) (.slice (some ⟨g6, 0, none⟩) (k + 1) c6))
        have HX6 := Lib.hid (blk_else (a := ⟨X + 1, 1, none⟩) (v := .slice (some ⟨g6, 0, none⟩) (k + 1) c6) hx6.out (by show X ≠ X + 1; omega))
        have HY6 : Hid ((w6.setCell ⟨X + 1, 1, none⟩ (.slice (some ⟨g6, 0, none⟩) (k + 1) c6)).heap[X + 1]? = some (.cells #[.int .i64 s, .slice (some ⟨g6, 0, none⟩) (k + 1) c6] 39 (0, 0))) := Lib.hid (by rw [heap_setCell_same w6 (X + 1) 1 _ _ (.slice (some ⟨g6, 0, none⟩) (k + 1) c6) hy6.out]; rfl)
        clear hP hu6 hg6 hat6
        go_wp2_with fail
        go_roundg (m - (k + 1))
        case measure => have := HJ.out; omega
        case rel =>
          refine ⟨k + 1, .slice (some ⟨g6, 0, none⟩) (k + 1) c6, l ++ [(.slice (some ⟨wo.heap.size, 0, none⟩) s s, List.replicate s 0)], by omega, by go_num, ?_, ?_, Lib.hid ?_, ?_, ?_⟩
          · first | exact HX6 | (rw [HLM.out]; exact HX6) | (rw [HLL.out]; exact HX6)
          · first | exact HY6 | (rw [HLM.out]; exact HY6) | (rw [HLL.out]; exact HY6)
          · rw [List.map_append, HLR.out]; simp [zeroR, List.replicate_succ']
          · first | exact HP | (rw [HLM.out]; exact HP) | (rw [HLL.out]; exact HP)
          · first | exact HU6 | (rw [HLM.out]; exact HU6) | (rw [HLL.out]; exact HU6)
    · obtain rfl : k = m := by omega
      have hgz := ((HG.out.setCell (a := ⟨X, 0, none⟩) (by show X < X + 2; omega) (.int .i64 s)).setCell (a := ⟨X, 1, none⟩) (by show X < X + 2; omega) v)
      obtain ⟨a', c', hav, htt⟩ := hgz.tt
      rw [HLL.out, HLR.out] at htt
      rw [HLL.out] at hav
      subst hav
      have HTT := Lib.hid (htt.weak (Q := fun b => w.heap.size ≤ b) (fun b hb => by rw [HX.out]; omega))
      have hz := zero_two K1.out s (.slice a' k c')
      have hbz := below_two HW.out (b := X) (by rw [HX.out]; exact Nat.le_refl _) (.int .i64 s) (.slice a' k c')
      obtain ⟨⟨z0, z1⟩, f0, f1⟩ := two_cells K1.out
      obtain ⟨⟨b0, b1⟩, _⟩ := two_cells K2.out
      have HBZ := Lib.hid hbz
      have HZ := Lib.hid hz
      clear hbz hz htt hgz
      go_wp2_with fail
      obtain ⟨y0, y1⟩ := HZ.out
      generalize ((wr.setCell { block := X, off := 0 } (Value.int IntKind.i64 s)).setCell { block := X, off := 1 } (Value.slice a' k c')) = w8 at *
      clear z0 z1 f0 f1 b0 b1
      try simp only [Exit.inBlock, Exit.then]
      refine bodyPost_ret (by simp [results, Try.results30, go_sem, y0, y1, Result.andThen]; try rfl) rfl ?_
      exact ⟨_, _, rfl, HTT.out, HBZ.out⟩
end Go.Proofs.Ytcfejbhoeichnaa
