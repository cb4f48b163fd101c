/- sort.Sort over any value of less than fifty elements; and over sort.Reverse(sort.IntSlice(..)) of a slice that the call made itself. -/
import Derived.Test.YtffgoekdjcempaaGreatSrtPdq
import Derived.Test.YtffgoekdjcempaaGreatSrtRev
import Derived.Test.YtffgoekdjcempaaGreatShelf
namespace Go.Proofs.YtffgoekdjcempaaGreat
open Go.ChangeShapes Go.WideShapes Go.ChangeAt Go.RowKit

theorem bitLenAux_le : ∀ f x : Nat, Lib.bitLenAux f x ≤ f
  | 0, _ => Nat.le_refl _
  | f + 1, x => by
    have := bitLenAux_le f (x / 2)
    rw [Lib.bitLenAux]
    split <;> omega
theorem bitLen_le (x : Nat) : Lib.bitLen x ≤ 1000 := Nat.le_trans (bitLenAux_le 64 x) (by omega)

section
variable {S : World → Array Int → Prop} {base : Nat} {T : TypeId} {rv : Value} {lt : Int → Int → Bool} {n : Nat}
set_option maxRecDepth 100000 in
set_option maxHeartbeats 2000000 in
theorem sortSort_tiny (w : World) (h1 : n ≤ 1)
    (f : FuncId) (r : Value) (mL : Sem.run Tryz.prog (method 252 T rv "Len") w = .ok (f, r) w) (eL : ∀ args w, (callFunc f args).run Tryz.prog w = .ok (.enter f args) w) (cL : Calls Tryz.prog f #[r] w fun e w' => e = .returned (.int .i64 n) ∧ Below w.heap.size w w') :
    Calls Tryz.prog 26 #[.iface T rv] w fun e w' => e = .returned (.tuple #[]) ∧ Below w.heap.size w w' := by
  have CL := Lib.hid cL
  clear cL
  have h1z : (n : Int) ≤ 1 := by omega
  go_enter Tryz.func26, Tryz.ntmps26
  go_wp2_with (go_at_fn f; refine CL.out.mono ?_; rintro e w1 ⟨rfl, hb1⟩; have HB1 := Lib.hid hb1; clear hb1)
  (try simp only [Exit.inBlock, Exit.then]); refine bodyPost_ret (results_none rfl _ _ _) rfl ?_
  exact ⟨rfl, HB1.out⟩
set_option maxRecDepth 100000 in
set_option maxHeartbeats 2000000 in
theorem sortSort_s (H : Srt S base T rv lt n) (hW : Sort.SWO lt) (d : Array Int) (w : World) (hS : S w d) (h1 : ¬ n ≤ 1)
    (f : FuncId) (r : Value) (mL : Sem.run Tryz.prog (method 252 T rv "Len") w = .ok (f, r) w) (eL : ∀ args w, (callFunc f args).run Tryz.prog w = .ok (.enter f args) w) (cL : Calls Tryz.prog f #[r] w fun e w' => e = .returned (.int .i64 n) ∧ Below w.heap.size w w') :
    Calls Tryz.prog 26 #[.iface T rv] w fun e w' => e = .returned (.tuple #[]) ∧ ∃ d', S w' d' ∧ Sort.PermIn 0 n d d' ∧ Sort.SortedIn lt 0 n d' := by
  have hm := H.most
  have hds := H.size hS
  have hp := Lib.hid (Sort.pdq_sorts lt hW d 0 n (Lib.bitLen n) true true (Nat.zero_le _) (by omega) (Or.inl rfl))
  have C2 : ∀ w1, S w1 d → Calls Tryz.prog 45 #[.iface T rv, .int .i64 0, .int .i64 n, .int .i64 (Lib.bitLen n)] w1 fun e w' => e = .returned (.tuple #[]) ∧ S w' (Sort.pdq lt d 0 n (Lib.bitLen n) true true) :=
    fun w1 h => pdqsort_s H hW (n + 1) 0 n (Lib.bitLen n) d w1 (by omega) h (Nat.zero_le _) (Nat.le_refl _) (bitLen_le n) (Or.inl rfl)
  have C1 : ∀ w1, Calls Tryz.prog 43 #[.int .u64 n] w1 fun e w' => e = .returned (.int .i64 (Lib.bitLen n)) ∧ w' = w1 := fun w1 => by
    have := bits_Len (n : Int) w1 (by omega) (by omega)
    rw [Int.toNat_natCast] at this
    exact this
  have HC2 := Lib.hid C2
  have HC1 := Lib.hid C1
  have HH := Lib.hid H
  have HS := Lib.hid hS
  have CL := Lib.hid cL
  clear H hS cL hW hds C1 C2
  have h1z : ¬ ((n : Int) ≤ 1) := by omega
  generalize Sort.pdq lt d 0 n (Lib.bitLen n) true true = D at *
  generalize Lib.bitLen n = BL at *
  go_enter Tryz.func26, Tryz.ntmps26
  go_wp2_with (first
    | (go_at_fn f; refine CL.out.mono ?_; rintro e w1 ⟨rfl, hb1⟩; have HS1 := Lib.hid (HH.out.on HS.out hb1); clear hb1)
    | (go_at_call 43; refine (HC1.out _).mono ?_; rintro e w2 ⟨rfl, hw2⟩; rw [hw2]; clear hw2)
    | (go_at_call 45; refine (HC2.out _ HS1.out).mono ?_; rintro e w3 ⟨rfl, hs3⟩; have HS3 := Lib.hid hs3; clear hs3))
  go_end0
  exact ⟨rfl, D, HS3.out, hp.out.1, hp.out.2⟩
end

namespace Rev
set_option maxRecDepth 100000 in
theorem reverse_any (T : TypeId) (v : Value) (w : World) : Calls Tryz.prog 27 #[.iface T v] w fun e w' =>
    e = .returned (.iface 85 (.pointer (some ⟨w.heap.size, 0, none⟩))) ∧ w' = w.alloc (.cells #[.iface T v] 87) := by
  go_enter Tryz.func27, Tryz.ntmps27
  go_wp2
  go_ret
  exact ⟨rfl, rfl⟩
theorem swo_gt : Sort.SWO (fun x y : Int => decide (y < x)) where
  irrefl := fun x => by simp
  trans := fun x y z h1 h2 => by simp at *; omega
  ntrans := fun x y z h1 h2 => by simp at *; omega
/-- 'sort.Sort(sort.Reverse(sort.IntSlice(l)))', the reversed value in block pb -/
theorem sort_down {w : World} {base pb : Nat} {v : Value} {l : List Int} (h : Own w base 3 1 v (l.map iC)) (hl : l.length ≤ 49) (hpb : w.heap[pb]? = some (.cells #[.iface 59 v] 87 (0, 0))) (hne : v.ownBlock ≠ some pb) :
    Calls Tryz.prog 26 #[.iface 85 (.pointer (some ⟨pb, 0, none⟩))] w fun e w' =>
      e = .returned (.tuple #[]) ∧ ∃ l' : List Int, l'.Perm l ∧ l'.Pairwise (fun x y => y ≤ x) ∧ Own w' base 3 1 v (l'.map iC) ∧ w.grownBy w' v.ownBlock := by
  have hc : w.cell? ⟨pb, 0, none⟩ = some (.iface 59 v) := cell_blk hpb rfl
  by_cases h1 : l.length ≤ 1
  · obtain ⟨a, cap, rfl, T⟩ := h.tab
    rw [List.length_map] at T
    have hp : l.Pairwise (fun x y => y ≤ x) := by
      match l, h1 with
      | [], _ => exact List.Pairwise.nil
      | [x], _ => exact List.pairwise_singleton _ _
    refine (sortSort_tiny (n := l.length) w h1 _ _ (method_via find_len hc (find_int w _).1) enters122 (by rw [List.length_map]; exact intLen a l.length cap w)).mono ?_
    rintro e w' ⟨rfl, hb⟩
    exact ⟨rfl, l, List.Perm.refl _, hp, h.below hb, hb.os, hb.tape, hb.output, hb.size, fun k hk _ => hb.block k hk⟩
  · obtain ⟨g, cap, rfl⟩ : ∃ g cap, v = .slice (some ⟨g, 0, none⟩) l.length cap := by
      rcases h.own.2 with ⟨_, h0'⟩ | ⟨g', cap', cur, h0, _⟩
      · rw [List.length_map] at h0'; omega
      · rw [List.length_map] at h0
        exact ⟨g', cap', h0⟩
    have hgl : g < w.heap.size := (h.own.lt g rfl).2
    have hA : At w w base g l.length cap l.toArray := ⟨by simp, by simpa using h, ⟨rfl, rfl, rfl, Nat.le_refl _, fun _ _ _ => rfl⟩⟩
    have hR := rev_srt (b0 := base) (pb := pb) hl hgl (fun e => hne (by rw [e]; rfl)) hpb
    refine (sortSort_s hR swo_gt l.toArray w hA h1 _ _ (method_via find_len hc (find_int w _).1) enters122 (intLen _ l.length cap w)).mono ?_
    rintro e w' ⟨rfl, d', hA', hP, hSo⟩
    have hsz : d'.size = l.length := hA'.size
    have hpl : d'.toList.Perm l := by
      have := hP.2.2
      rw [show d'.extract 0 l.length = d' from by rw [← hsz]; simp, show l.toArray.extract 0 l.length = l.toArray from by simp] at this
      simpa using this
    refine ⟨rfl, d'.toList, hpl, ?_, hA'.own, hA'.grown⟩
    rw [List.pairwise_iff_getElem]
    intro i j hi hj hij
    have hi' : i < d'.size := by simpa using hi
    have hj' : j < d'.size := by simpa using hj
    have := hSo i j (Nat.zero_le _) hij (by omega)
    rw [getElem!_pos d' i hi', getElem!_pos d' j hj'] at this
    simp only [decide_eq_false_iff_not, Int.not_lt] at this
    simpa using this
end Rev
end Go.Proofs.YtffgoekdjcempaaGreat
