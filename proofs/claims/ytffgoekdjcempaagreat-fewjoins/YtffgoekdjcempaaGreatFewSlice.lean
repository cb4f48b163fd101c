/- sort.Slice on counters of the call's own, by their keys. -/
import Derived.Test.YtffgoekdjcempaaGreatCopyInto
import Derived.Test.YtffgoekdjcempaaGreatShelf
import Derived.Test.YtffgoekdjcempaaGreatGr3
import Derived.Shelf.SlSortFuncK.WholeK
import Derived.Shelf.GgSortFunc.Tiny
import Derived.Sort.OwnSortedInts
import Derived.BigQuiet
namespace Go.Proofs.YtffgoekdjcempaaGreat
open Go.ChangeShapes Go.WideShapes Go.ChangeAt Go.RowKit

namespace Few
/-- the flat row of counters -/
theorem flat_list (A : List (Int × Int)) : (Sort.flatK iiC 2 A.toArray).toList = (A.map iiC).flatten := by
  apply List.ext_getElem?
  intro t
  have hf : (A.map iiC).flatten.length = A.length * 2 := by rw [flatten_len (rows_of iiC_len A), List.length_map]
  by_cases ht : t < A.length * 2
  · have hq : t / 2 < A.length := by omega
    have hr : (A.map iiC)[t / 2]? = some (iiC A[t / 2]) := by rw [List.getElem?_map, List.getElem?_eq_getElem hq]; rfl
    have hu : (iiC A[t / 2])[t % 2]? = some ((iiC A[t / 2])[t % 2]!) := by
      rcases Nat.mod_two_eq_zero_or_one t with h | h <;> rw [h] <;> rfl
    have h1 := flatten_get (rows_of iiC_len A) hr hu
    rw [show t / 2 * 2 + t % 2 = t from by omega] at h1
    rw [h1, Array.getElem?_toList]
    have h2 := Sort.get_flatK iiC 2 A.toArray t (by simpa using ht)
    rw [Array.getElem?_eq_getElem (by simpa using ht)]
    rw [getElem!_pos _ t (by simpa using ht)] at h2
    rw [h2]
    simp [hq]
  · rw [List.getElem?_eq_none (by simp; omega), List.getElem?_eq_none (by omega)]
theorem holds_flat {w : World} {g : Nat} {cur : Array Value} {e : TypeId} {A : List (Int × Int)} (hb : w.heap[g]? = some (.cells cur e (0, 0))) (ht : cur.toList.take (A.length * 2) = (A.map iiC).flatten) : Sort.HoldsK iiC 2 w g 0 A.toArray := by
  intro j hj
  have hj' : j < A.length * 2 := by simpa using hj
  refine ⟨?_, by simp [World.frozen?, hb]⟩
  have h1 : (cur.toList.take (A.length * 2))[j]? = (Sort.flatK iiC 2 A.toArray).toList[j]? := by rw [ht, flat_list]
  rw [List.getElem?_take_of_lt hj'] at h1
  simp only [World.cell?, hb, Nat.zero_add]
  simp only [Option.isSome_none, Bool.false_eq_true, if_false]
  rw [← Array.getElem?_toList, h1, Array.getElem?_toList, Array.getElem?_eq_getElem (by simpa using hj'), getElem!_pos _ j (by simpa using hj')]
  rfl
theorem heap_flat {w : World} {g n : Nat} {os : Array Obj} {cur : Array Value} {e : TypeId} {fr : Nat × Nat} (d : Array (Int × Int)) (hb : w.heap[g]? = some (.cells cur e fr)) :
    (Sort.grow (Sort.putRowK iiC 2 (Sort.ahead w n) g 0 d) os).heap[g]? = some (.cells (Sort.putCells id 0 (Sort.flatK iiC 2 d) cur) e fr) := by
  have hg : g < w.heap.size := (Array.getElem?_eq_some_iff.1 hb).1
  rw [Sort.heap_grow_old _ _ (by simpa [Sort.putRowK] using hg)]
  simp [Sort.putRowK, Sort.putRow, Sort.mapBlock, Sort.ahead, Array.getElem?_modify, hb, Sort.onCells]
theorem grown_flat {w : World} {g n : Nat} {os : Array Obj} (d : Array (Int × Int)) : w.grownBy (Sort.grow (Sort.putRowK iiC 2 (Sort.ahead w n) g 0 d) os) (some g) := by
  refine ⟨rfl, rfl, rfl, by simp [Sort.putRowK], fun k hk hne => ?_⟩
  rw [Sort.heap_grow_old _ _ (by simpa [Sort.putRowK] using hk)]
  have : g ≠ k := fun e => hne (by rw [e])
  simp [Sort.putRowK, Sort.putRow, Sort.mapBlock, Sort.ahead, Array.getElem?_modify, this]
theorem take_flat (cur : Array Value) (A : List (Int × Int)) (h : A.length * 2 ≤ cur.size) : (Sort.putCells id 0 (Sort.flatK iiC 2 A.toArray) cur).toList.take (A.length * 2) = (A.map iiC).flatten := by
  rw [← flat_list]
  apply List.ext_getElem?
  intro j
  by_cases hj : j < A.length * 2
  · rw [List.getElem?_take_of_lt hj, Array.getElem?_toList, Array.getElem?_toList]
    simp [Sort.putCells, hj, show j < cur.size by omega]
  · rw [List.getElem?_take_eq_none (by omega), List.getElem?_eq_none (by simp; omega)]

noncomputable def svT : TypeInfo := (Tryz.prog.info? 22).get (by kernel_rfl)
noncomputable def svE : TypeInfo := (Tryz.prog.info? 37).get (by kernel_rfl)
theorem svK (n : Nat) (h2 : 2 ≤ n) : Go.Lib.swapperK n svE 25 = 9 := by
  have a : svE.hasPointers = false := by kernel_rfl
  have b : svE.bytes = 16 := by kernel_rfl
  have c : (n == 0) = false := by simp; omega
  have d : (n == 1) = false := by simp; omega
  simp [Go.Lib.swapperK, a, b, c, d]
theorem svK0 : Go.Lib.swapperK 0 svE 25 = 1 := by simp [Go.Lib.swapperK]
theorem svK1 : Go.Lib.swapperK 1 svE 25 = 2 := by simp [Go.Lib.swapperK]
def ltKey (a b : Int × Int) : Bool := decide (a.1 < b.1)
theorem swo_key : Sort.SWO ltKey where
  irrefl := fun x => by simp [ltKey]
  trans := fun x y z h1 h2 => by simp [ltKey] at *; omega
  ntrans := fun x y z h1 h2 => by simp [ltKey] at *; omega
set_option maxHeartbeats 2000000 in
theorem less_key (g c Bs size : Nat) (W : World) (G : Nat → Int) (hs : W.cell? ⟨Bs, 0, none⟩ = some (.slice (some ⟨g, 0, none⟩) size c))
    (hc : ∀ t, t < size → W.cell? ⟨g, t * 2, none⟩ = some (.int .i64 (G t))) (i j : Nat) (hi : i < size) (hj : j < size) (_hsz : size < 4611686018427387904) :
    Calls Tryz.prog 25 #[.int .i64 i, .int .i64 j, .pointer (some ⟨Bs, 0, none⟩)] W fun e w' => e = .returned (.bool (decide (G i < G j))) ∧ ∃ q, w' = W.drewN q := by
  have ci := hc i hi
  have cj := hc j hj
  go_enter Tryz.func25, Tryz.ntmps25
  go_wp2
  go_quiet (fail)
  go_wp2
  go_ret
  exact ⟨rfl, nq, rfl⟩

/-- 'sort.Slice(l, func(i, j int) bool { return l[i].Key < l[j].Key })' -/
theorem sort_keys {w : World} {base Bs : Nat} {v : Value} {A : List (Int × Int)} (h : Own w base 37 2 v (A.map iiC)) (hs : w.cell? ⟨Bs, 0, none⟩ = some v) (hB : Bs < base) (hl : A.length ≤ 1000) :
    Calls Tryz.prog 24 #[.iface 22 v, .func (.func 25) #[] #[.pointer (some ⟨Bs, 0, none⟩)]] w fun e w' =>
      e = .returned (.tuple #[]) ∧ ∃ A' : List (Int × Int), A'.Perm A ∧ A'.Pairwise (fun a b => a.1 ≤ b.1) ∧ Own w' base 37 2 v (A'.map iiC) ∧ w.grownBy w' v.ownBlock := by
  have hBs : Bs < w.heap.size := by
    rcases Nat.lt_or_ge Bs w.heap.size with h1 | h1
    · exact h1
    · exfalso
      have : w.heap[Bs]? = none := Array.getElem?_eq_none h1
      simp [World.cell?, this] at hs
  by_cases h2 : A.length ≤ 1
  · obtain ⟨a, cap, rfl, T⟩ := h.tab
    rw [List.length_map] at T h ⊢
    have hp : A.Pairwise (fun a b => a.1 ≤ b.1) := by
      match A, h2 with
      | [], _ => exact List.Pairwise.nil
      | [x], _ => exact List.pairwise_singleton _ _
    have key : ∀ f, Tryz.prog.funcs.findIdx? (·.name == "internal/reflectlite" ++ ".Swapper$" ++ toString (Go.Lib.swapperK A.length svE 25)) = some f →
        Calls Tryz.prog 24 #[.iface 22 (.slice a A.length cap), .func (.func 25) #[] #[.pointer (some ⟨Bs, 0, none⟩)]] w fun e w' => e = .returned (.tuple #[]) ∧ ∃ os, w' = Sort.grow w os := fun f hf =>
      Any.sort_Slice_tiny laysGg6 22 37 svT svE (by kernel_rfl) (by kernel_rfl) (by kernel_rfl) (by kernel_rfl) 25 (fun _ => by kernel_rfl) a A.length cap h2 f hf _ _ _ w
    have hk : ∃ f, Tryz.prog.funcs.findIdx? (·.name == "internal/reflectlite" ++ ".Swapper$" ++ toString (Go.Lib.swapperK A.length svE 25)) = some f := by
      have : A.length = 0 ∨ A.length = 1 := by omega
      rcases this with h0 | h0
      · rw [h0, svK0]; exact ⟨51, by kernel_rfl⟩
      · rw [h0, svK1]; exact ⟨52, by kernel_rfl⟩
    obtain ⟨f, hf⟩ := hk
    refine (key f hf).mono ?_
    rintro e w' ⟨rfl, os, rfl⟩
    have hg : ∀ row, w.grownBy (Sort.grow w os) row := fun row => ⟨rfl, rfl, rfl, by simp, fun k hk _ => Sort.heap_grow_old _ _ hk⟩
    exact ⟨rfl, A, List.Perm.refl _, hp, h.below ⟨rfl, rfl, rfl, by simp, fun k hk => Sort.heap_grow_old _ _ hk⟩, hg _⟩
  · obtain ⟨g, cap, rfl⟩ : ∃ g cap, v = .slice (some ⟨g, 0, none⟩) A.length cap := by
      rcases h.own.2 with ⟨_, h0'⟩ | ⟨g', cap', cur, h0, _⟩
      · rw [List.length_map] at h0'; omega
      · rw [List.length_map] at h0
        exact ⟨g', cap', h0⟩
    obtain ⟨h3, h4, h5, h6, cur, h7, h8, h9⟩ := h.laidAt
    have hH := holds_flat h7 h9
    have hgl : g < w.heap.size := (Array.getElem?_eq_some_iff.1 h7).1
    have hless : Go.Proofs.LessReadsK Tryz.prog 25 #[.pointer (some ⟨Bs, 0, none⟩)] iiC 2 ltKey g 0 A.toArray.size w := by
      intro m os dk hs2 i j hi hj
      have e : Go.Proofs.sortWorldK iiC 2 w g 0 m dk os = Sort.putRowK iiC 2 (Sort.grow (Sort.ahead w m) os) g 0 dk := by
        unfold Go.Proofs.sortWorldK; rw [Sort.putRowK_grow _ _ (Sort.ahead w m) _ g 0 _ hgl]
      have hHg : Sort.HoldsK iiC 2 (Sort.grow (Sort.ahead w m) os) g 0 A.toArray := Sort.holdsK_grow _ _ _ _ g 0 A.toArray hgl (Sort.holdsK_ahead _ _ _ _ _ _ _ hH)
      refine less_key g cap Bs A.toArray.size _ (fun t => dk[t]!.1) ?_ (fun t ht => ?_) i j hi hj (by simp; omega)
      · rw [e, Sort.cell?_putRowK_other _ _ _ g 0 dk _ (by show Bs ≠ g; omega), Sort.cell?_grow _ _ _ (by show Bs < w.heap.size; exact hBs)]
        show w.cell? _ = _
        rw [hs]; simp
      · have := ((Sort.holdsK_putRowK _ _ _ g 0 A.toArray dk hHg hs2).cell (i := t) (c := 0) (by omega) (by omega)).1
        rw [e]
        simpa [iiC] using this
    have hS := Any.sort_Slice_cells_sorted laysGg6 22 37 svT svE (by kernel_rfl) (by kernel_rfl) (by kernel_rfl) (by kernel_rfl) 25 (fun _ => by kernel_rfl) iiC 2 iiC_len (by kernel_rfl) (fun _ => by kernel_rfl)
      iiC_one ltKey swo_key 25 _
      (enters_of Tryz.func25 (by kernel_rfl) rfl) g 0 cap A.toArray (by simp; omega) (by simp; omega) 59 (by rw [svK _ (by simp; omega)]; kernel_rfl) false
      (fun args W => run_callFunc_extern Tryz.func59 (by kernel_rfl) (by kernel_rfl) (by kernel_rfl) (e := Extern.ReflectliteSwapper.swap false) (by kernel_rfl) args W) w hless hH hgl
    rw [show A.toArray.size = A.length from by simp] at hS
    refine hS.mono ?_
    rintro e w' ⟨rfl, d', n, os, hP, hSo, rfl⟩
    have hsz : d'.size = A.length := by rw [hP.1]; simp
    have hpl : d'.toList.Perm A := by
      have := hP.2.2
      rw [show d'.extract 0 A.length = d' from by rw [← hsz]; simp, show A.toArray.extract 0 A.length = A.toArray from by simp] at this
      simpa using this
    refine ⟨rfl, d'.toList, hpl, ?_, ?_, grown_flat _⟩
    · rw [List.pairwise_iff_getElem]
      intro i j hi hj hij
      have hi' : i < d'.size := by simpa using hi
      have hj' : j < d'.size := by simpa using hj
      have := hSo i j (Nat.zero_le _) hij (by omega)
      rw [getElem!_pos d' i hi', getElem!_pos d' j hj'] at this
      simp only [ltKey, decide_eq_false_iff_not, Int.not_lt] at this
      simpa using this
    · refine Own.ofBlock (by rw [List.length_map]; simpa using hsz) (rows_of iiC_len _) h4 (heap_flat _ h7) h5 h6 (by simp [Sort.putCells, h8]) ?_
      have := take_flat cur d'.toList (by rw [h8]; simp; omega)
      simpa [hsz] using this
end Few
end Go.Proofs.YtffgoekdjcempaaGreat
