/- The contracts of slices.Grow at a nil slice and of slices.Concat at two slices, on slices of api.Counter. -/
import Derived.Test.YtffgoekdjcempaaGreatInfoCounters
import Derived.Test.YtffgoekdjcempaaGreatGr3
import Derived.Lib.AppendZeros
namespace Go.Proofs.YtffgoekdjcempaaGreat
open Go.ChangeShapes Go.WideShapes Go.ChangeAt Go.RowKit

set_option maxRecDepth 100000 in
set_option maxHeartbeats 1000000 in
theorem grow_counters (n : Nat) (w : World) (hn : n ≤ 1000000000) :
    Calls Tryz.prog 31 #[.slice none 0 0, .int .i64 n] w (RetRows w 37 2 []) := by
  by_cases h0 : 0 < n
  · obtain ⟨i0, hi, hz0, hz1, hz2⟩ := info_parts info_counter
    have hrun := Lib.run_append_nil_zeros w 22 3 22 37 i0 (.agg #[.int .i64 0, .int .i64 0]) .i64 .i64 Tryz.underlying22 Tryz.underlying3 hi hz0 n h0 (by rw [hz1]; decide) (by omega) (by rw [hz2]; omega)
    have hge := grownCap_ge w n 0 37
    have hle := grownCap_le_maxLen w n 0 37 (by unfold maxLen; omega)
    have hm : Own (w.drew.alloc (.cells (Builtin.zeroCells ((.agg #[.int .i64 0, .int .i64 0]) : Value).cells n ++ Builtin.zeroCells ((.agg #[.int .i64 0, .int .i64 0]) : Value).cells (grownCap w n 0 37 - n)) 37)) w.heap.size 37 2 (.slice (some ⟨w.heap.size, 0, none⟩) 0 (grownCap w n 0 37)) [] :=
      Own.made (World.ownsRow_made w.drew _ _ (Nat.le_refl _) hle (by rw [Array.size_append, size_zeroCells, size_zeroCells]; show n * 2 + (grownCap w n 0 37 - n) * 2 = _; omega))
    have hbel : Below w.heap.size w (w.drew.alloc (.cells (Builtin.zeroCells ((.agg #[.int .i64 0, .int .i64 0]) : Value).cells n ++ Builtin.zeroCells ((.agg #[.int .i64 0, .int .i64 0]) : Value).cells (grownCap w n 0 37 - n)) 37)) := (Below.refl _ _).drew.alloc (Nat.le_refl _) _
    have HR := Lib.hid hrun
    unfold maxLen at hle
    clear hrun
    generalize grownCap w n 0 37 = c at *
    generalize (w.drew.alloc (.cells (Builtin.zeroCells ((.agg #[.int .i64 0, .int .i64 0]) : Value).cells n ++ Builtin.zeroCells ((.agg #[.int .i64 0, .int .i64 0]) : Value).cells (c - n)) 37)) = W at *
    go_enter Tryz.func31, Tryz.ntmps31
    go_wp2_with ((at_builtin; refine Lib.wpList_append_run _ rfl _ _ 22 3 rfl _ _ rfl rfl _ _ HR.out ?_))
    go_ret
    exact ⟨_, rfl, hm, hbel⟩
  · obtain rfl : n = 0 := by omega
    go_enter Tryz.func31, Tryz.ntmps31
    go_wp2
    go_ret
    exact ⟨_, rfl, Own.nil _ _ _ _, Below.refl _ _⟩

theorem take_sum_counters (S : List (Sl (Int × Int))) (k : Nat) (s : Sl (Int × Int)) (hs : S[k]? = some s) : ((S.take (k + 1)).map (·.len)).sum = ((S.take k).map (·.len)).sum + s.len := by
  rw [List.take_add_one, hs]
  simp
theorem take_flat_counters (S : List (Sl (Int × Int))) (k : Nat) (s : Sl (Int × Int)) (hs : S[k]? = some s) : ((S.take (k + 1)).flatMap (·.l)) = ((S.take k).flatMap (·.l)) ++ s.l := by
  rw [List.take_add_one, hs]
  simp
theorem sum_take_le_counters (S : List (Sl (Int × Int))) (k : Nat) : ((S.take k).map (·.len)).sum ≤ (S.map (·.len)).sum := by
  rw [List.map_take]
  generalize S.map (·.len) = L
  induction L generalizing k with
  | nil => simp
  | cons a t ih =>
    cases k with
    | zero => simp
    | succ k => simp only [List.take_succ_cons, List.sum_cons]; have := ih k; omega
theorem flat_len_counters (S : List (Sl (Int × Int))) (h : ∀ s ∈ S, s.l.length = s.len) : (S.flatMap (·.l)).length = (S.map (·.len)).sum := by
  induction S with
  | nil => rfl
  | cons a t ih =>
    rw [List.flatMap_cons, List.length_append, List.map_cons, List.sum_cons, ih (fun s hs => h s (List.mem_cons_of_mem _ hs)), h a (List.mem_cons_self ..)]

set_option maxRecDepth 100000 in
set_option maxHeartbeats 1000000 in
theorem concat_counters (a : Option Addr) (n cap : Nat) (S : List (Sl (Int × Int))) (w : World) (h : Tab w a n cap 1 (S.map slC)) (hS : ∀ s ∈ S, Tab w s.a s.len s.cap 2 (s.l.map iiC)) (hsum : (S.map (·.len)).sum ≤ 1000000) :
    Calls Tryz.prog 16 #[.slice a n cap] w (RetRows w 37 2 ((S.flatMap (·.l)).map iiC)) := by
  have hn := h.hmax
  have hle := h.hle
  unfold maxLen at hn
  have HL := Lib.hid h.hlen
  have HT := Lib.hid h
  have HS := Lib.hid hS
  have HM := Lib.hid hsum
  clear h hS hsum
  go_enter Tryz.func16, Tryz.ntmps16
  go_wp2
  go_loop [3, 11] (fun z i => ∃ k : Nat, k ≤ n ∧ i = .int .i64 k ∧ z = .int .i64 (((S.take k).map (·.len)).sum : Nat)) (fun _ i => n - (intOf i).toNat)
  case atStart => exact ⟨0, Nat.zero_le _, rfl, rfl⟩
  case round =>
    obtain ⟨k, hk, rfl, rfl⟩ := hrel
    have hb := sum_take_le_counters S k
    have hb' := HM.out
    by_cases hlt : k < n
    · obtain ⟨s, hs⟩ := some_get HL.out hlt
      obtain ⟨b, off, ha, hbs, c1⟩ := HT.out.one (Below.refl _ _) (map_get hs)
      have hb2 := sum_take_le_counters S (k + 1)
      rw [take_sum_counters S k s hs] at hb2
      have HK := Lib.hid (take_sum_counters S k s hs)
      rw [ha]
      clear ha hs
      generalize ((S.take k).map (·.len)).sum = z at *
      have hz : (z : Int) + (s.len : Int) ≤ 1000000 := by omega
      clear hb hb2
      go_wp2
      go_round
      case rel => exact ⟨k + 1, by omega, by go_num, by rw [HK.out]; go_num⟩
      case measure => simp [intOf]; omega
    · have hk' : S.take k = S := List.take_of_length_le (by have := HL.out; rw [List.length_map] at this; omega)
      rw [hk'] at hb ⊢
      clear hk'
      have HG := Lib.hid (grow_counters (S.map (·.len)).sum w (by omega))
      go_wp2_with fail
      refine HG.out.mono ?_
      rintro e w1 ⟨v, rfl, hO, hbel⟩
      go_wp2
      go_loopw [6, 27] (fun v i wr => ∃ k : Nat, k ≤ n ∧ i = .int .i64 k ∧ Own wr w.heap.size 37 2 v (((S.take k).flatMap (·.l)).map iiC) ∧ Below w.heap.size w wr) (fun _ i _ => n - (intOf i).toNat)
      case atStart => exact ⟨0, Nat.zero_le _, rfl, hO, hbel⟩
      case round =>
        obtain ⟨j, hj, rfl, hOj, hbj⟩ := hrel
        by_cases hlt : j < n
        · obtain ⟨s, hs⟩ := some_get HL.out hlt
          obtain ⟨b, off, ha, hbs, c1⟩ := HT.out.one hbj (map_get hs)
          have hmem : s ∈ S := List.mem_of_getElem? hs
          have hlen : ((S.take j).flatMap (·.l)).length = ((S.take j).map (·.len)).sum := flat_len_counters _ (fun s hs => by have := (HS.out s (List.mem_of_mem_take hs)).hlen; rw [List.length_map] at this; exact this)
          have hb2 := sum_take_le_counters S (j + 1)
          rw [take_sum_counters S j s hs] at hb2
          have HK := Lib.hid (take_flat_counters S j s hs)
          have HTs := Lib.hid (HS.out s hmem)
          have hbig : ((((S.take j).flatMap (·.l)).map iiC)).length + s.len ≤ 1000000 := by rw [List.length_map, hlen]; omega
          have HB := Lib.hid hbig
          have hsz := hbj.size
          rw [ha]
          clear ha hs hmem hlen hb2 hbig hb hb'
          go_wp2_with ((at_builtin; refine wpList_append_tab _ rfl _ _ 22 rfl w.heap.size 37 _ 2 16 Tryz.underlying22 info_counter rfl (by decide) _ _ rfl hOj s.a s.len s.cap (s.l.map iiC) w HTs.out hbj rfl (rows_of iiC_len s.l) (one_of iiC_one s.l) (by have := HB.out; omega) (by decide) hsz ?_; intro v' w2 hO2 hg2))
          go_roundw
          case rel => exact ⟨j + 1, by omega, by go_num, by rw [HK.out, List.map_append]; exact hO2, hOj.under hbj (Nat.le_refl _) hsz hg2⟩
          case measure => simp [intOf]; omega
        · have hj' : S.take j = S := List.take_of_length_le (by have := HL.out; rw [List.length_map] at this; omega)
          rw [hj'] at hOj
          clear hj'
          go_wp2
          go_ret
          exact ⟨_, rfl, hOj, hbj⟩

end Go.Proofs.YtffgoekdjcempaaGreat
