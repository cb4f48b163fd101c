/- The contract of the laws' own put (culkeep.put): a filter to which keys came. -/
import Derived.Test.YtoijeafhohcbdaaBloomFill
import Derived.Deep.DeepCutAuto
namespace Go.Proofs.Ytoijeafhohcbdaa
open Go.ChangeShapes Go.WideShapes Go.ChangeAt Go.RowKit
open Bloom
theorem elem_intK : Try.prog.elem 23 = 3 := by kernel_rfl
theorem size_intK (w : World) : (sizeOf 3).run Try.prog w = .ok 1 w := by kernel_rfl

namespace Bloom
/-- the positions of all keys -/
def allP (s k : Nat) (l : List Int) : List Nat := l.flatMap (fun x => places x s k)
theorem allP_snoc {s k t : Nat} {l : List Int} {x : Int} (h : l[t]? = some x) : allP s k (l.take (t + 1)) = allP s k (l.take t) ++ places x s k := by
  unfold allP
  rw [List.take_add_one, h, Option.toList_some, List.flatMap_append]
  simp
theorem allP_append (s k : Nat) (l m : List Int) : allP s k (l ++ m) = allP s k l ++ allP s k m := by unfold allP; rw [List.flatMap_append]
theorem allP_mem {s k : Nat} {l : List Int} {x : Int} (h : x ∈ l) : ∀ p ∈ places x s k, p ∈ allP s k l := by
  intro p hp
  unfold allP
  rw [List.mem_flatMap]
  exact ⟨x, h, hp⟩
theorem allP_lt {s k : Nat} (h : 1 ≤ s) {l : List Int} : ∀ p ∈ allP s k l, p < s := by
  intro p hp
  unfold allP at hp
  rw [List.mem_flatMap] at hp
  obtain ⟨x, _, hp⟩ := hp
  exact places_lt h p hp
theorem tab_set {w : World} {a : Option Addr} {n c : Nat} {R : List (List Value)} (h : Tab w a n c 1 R) (Y : Nat) (hY : 0 < n → ∀ ad, a = some ad → ad.block ≠ Y) (i : Nat) (v : Value) : Tab (w.setCell ⟨Y, i, none⟩ v) a n c 1 R := by
  refine ⟨h.hlen, h.hle, h.hmax, h.hnil, fun hl => ?_⟩
  obtain ⟨b, off, ha, hlt, hc⟩ := h.hspot hl
  have hne := hY hl _ ha
  refine ⟨b, off, ha, by simpa using hlt, fun i r hr j u hu => ?_⟩
  rw [World.cell?_of_block (Below.heap_setCell _ _ _ _ hne)]
  exact hc i r hr j u hu
/-- a slice in the heap that lies in neither of two blocks -/
structure Held (w : World) (X : Nat) (a : Option Addr) (n c : Nat) (B : List Bool) : Prop where
  tab : Tab w a n c 1 (B.map bC)
  off : 0 < n → ∀ ad, a = some ad → ad.block ≠ X ∧ ad.block ≠ X + 1
theorem Held.below {w w' : World} {X : Nat} {a : Option Addr} {n c : Nat} {B : List Bool} (h : Held w X a n c B) (hb : Below w.heap.size w w') : Held w' X a n c B := ⟨h.tab.below hb, h.off⟩
theorem Held.set {w : World} {X : Nat} {a : Option Addr} {n c : Nat} {B : List Bool} (h : Held w X a n c B) (i : Nat) (v : Value) (Y : Nat) (hY : Y = X ∨ Y = X + 1) : Held (w.setCell ⟨Y, i, none⟩ v) X a n c B := by
  refine ⟨⟨h.tab.hlen, h.tab.hle, h.tab.hmax, h.tab.hnil, fun hl => ?_⟩, h.off⟩
  obtain ⟨b, off, ha, hlt, hc⟩ := h.tab.hspot hl
  have hne := h.off hl _ ha
  refine ⟨b, off, ha, by simpa using hlt, fun i r hr j u hu => ?_⟩
  rw [World.cell?_of_block (Below.heap_setCell _ _ _ _ (by show b ≠ Y; have h1 := hne.1; have h2 := hne.2; simp only at h1 h2; omega))]
  exact hc i r hr j u hu
theorem Held.of_tab {w w' : World} {a : Option Addr} {n c : Nat} {B : List Bool} (h : Tab w a n c 1 (B.map bC)) (hb : Below w.heap.size w w') : Held w' w.heap.size a n c B := by
  refine ⟨h.below hb, fun hl ad ha => ?_⟩
  obtain ⟨b, off, ha', hlt, _⟩ := h.hspot hl
  rw [ha'] at ha
  simp only [Option.some.injEq] at ha
  subst ha
  simp only
  omega
theorem Held.of_own {w : World} {X base : Nat} {e : TypeId} {a : Option Addr} {n c : Nat} {B : List Bool} (h : Own w base e 1 (.slice a n c) (B.map bC)) (hX : X + 1 < base) : Held w X a n c B := by
  refine ⟨h.tab_of, fun hl ad ha => ?_⟩
  have hn : B.length = n := by have := h.tab_of.hlen; rw [List.length_map] at this; exact this
  obtain ⟨g, c', hv, hg, _⟩ := own_spotB h (by omega)
  simp only [Value.slice.injEq] at hv
  rw [hv.1, Option.some.injEq] at ha
  subst ha
  simp only
  omega
theorem newT {w : World} {S K : Int} {q : Option Addr} {n c : Nat} {B : List Bool} (h : Tab w q n c 1 (B.map bC)) : SF (w.alloc (.cells #[.int .i64 S, .int .i64 K, .slice q n c] 33)) w.heap.size S K q n c B ∧ Below w.heap.size w (w.alloc (.cells #[.int .i64 S, .int .i64 K, .slice q n c] 33)) :=
  have hb : Below w.heap.size w (w.alloc (.cells #[.int .i64 S, .int .i64 K, .slice q n c] 33)) := (Below.refl _ _).alloc (Nat.le_refl _) _
  ⟨⟨(MapKept.heap_alloc w _).1, h.below hb⟩, hb⟩
theorem none_has {s k : Nat} (h1 : 1 ≤ s) (h2 : 1 ≤ k) (x : Int) : hasB (List.replicate s false) (places x s k) = false := by
  cases hc : hasB (List.replicate s false) (places x s k) with
  | false => rfl
  | true =>
    rw [hasB_true] at hc
    have hp := places_get (k := x) (s := s) (n := k) (i := 0) (by omega)
    have := hc _ (List.mem_of_getElem? hp)
    rw [List.getElem?_replicate, if_pos (placeN_lt h1)] at this
    cases this
end Bloom

set_option maxRecDepth 100000 in
set_option maxHeartbeats 4000000 in
theorem fill_where (s k : Nat) (a q : Option Addr) (len cap ln cp : Nat) (B : List Bool) (l : List Int) (w : World) (hT : Tab w a len cap 1 (B.map bC)) (hL : Tab w q ln cp 1 (l.map iC)) (hE : filterE s k len = 0) :
    Calls Try.prog 31 #[.agg #[.int .i64 s, .int .i64 k, .slice a len cap], .slice q ln cp] w fun e w' => ∃ a' c', e = .returned (.tuple #[.agg #[.int .i64 s, .int .i64 k, .slice a' len c'], .bool true]) ∧ Tab w' a' len c' 1 ((putB B (allP s k (l.take 100))).map bC) ∧ Below w.heap.size w w' ∧ (a' = a ∨ ∃ g, a' = some ⟨g, 0, none⟩ ∧ w.heap.size ≤ g) := by
  have H1L : Hid (1 ≤ len) := Lib.hid (by obtain ⟨s', k', _, _, h1, _, _, _, h5⟩ := filterE_zero hE; omega)
  have hl0 : l.length = ln := by have h := hL.hlen; rw [List.length_map] at h; exact h
  have hBl : B.length = len := by have h := hT.hlen; rw [List.length_map] at h; exact h
  have hm := tab_len hL
  have hle := hL.hle
  have hmx := hL.hmax
  unfold maxLen at hmx
  obtain ⟨n, hn⟩ : ∃ n, min ln 100 = n := ⟨_, rfl⟩
  have HTK : Hid (l.take 100 = l.take n) := Lib.hid (by
    by_cases h9 : ln ≤ 100
    · rw [List.take_of_length_le (by omega), List.take_of_length_le (by omega)]
    · rw [show n = 100 from by omega])
  rw [HTK.out]
  have hn1 : n ≤ ln := by omega
  have hmin : min (ln : Int) 100 = (n : Int) := by omega
  have rU := run_upto 23 3 1 Try.underlying23 elem_intK size_intK q ln cp n (by omega)
  have HP := Lib.hid (fun (W : World) (a' : Option Addr) (c' : Nat) (B' : List Bool) (x : Int) (h : Tab W a' len c' 1 (B'.map bC)) => fput_ok s k a' len c' B' x W h hE)
  unfold filterV at HP
  have HL := Lib.hid hL
  have HLN := Lib.hid (And.intro hl0 hBl)
  have HT := Lib.hid hT
  have hbx : Below w.heap.size w ((w.alloc (.cells #[.int .i64 s, .int .i64 k, .slice a len cap] 33)).alloc (.cells #[.int .i64 0, .int .i64 0, .slice none 0 0] 33)) := ((Below.refl _ _).alloc (Nat.le_refl _) _).alloc (by simp) _
  have k1 : ((w.alloc (.cells #[.int .i64 s, .int .i64 k, .slice a len cap] 33)).alloc (.cells #[.int .i64 0, .int .i64 0, .slice none 0 0] 33)).heap[w.heap.size]? = some (.cells #[.int .i64 s, .int .i64 k, .slice a len cap] 33 (0, 0)) := by
    rw [Below.heap_alloc _ _ _ (by simp)]
    exact (MapKept.heap_alloc w _).1
  have k2 : ((w.alloc (.cells #[.int .i64 s, .int .i64 k, .slice a len cap] 33)).alloc (.cells #[.int .i64 0, .int .i64 0, .slice none 0 0] 33)).heap[w.heap.size + 1]? = some (.cells #[.int .i64 0, .int .i64 0, .slice none 0 0] 33 (0, 0)) := by
    have := (MapKept.heap_alloc (w.alloc (.cells #[.int .i64 s, .int .i64 k, .slice a len cap] 33)) (.cells #[.int .i64 0, .int .i64 0, .slice none 0 0] 33)).1
    simpa using this
  have hH := Held.of_tab hT hbx
  obtain ⟨w1, hw1⟩ : ∃ w1, (w.alloc (.cells #[.int .i64 s, .int .i64 k, .slice a len cap] 33)).alloc (.cells #[.int .i64 0, .int .i64 0, .slice none 0 0] 33) = w1 := ⟨_, rfl⟩
  rw [hw1] at hbx k1 k2 hH
  have HV := Lib.hid hw1
  have HB1 := Lib.hid hbx
  have K1 := Lib.hid k1
  have K2 := Lib.hid k2
  have e0 : putB B (allP s k (l.take 0)) = B := by rw [List.take_zero]; rfl
  rw [← e0] at hH
  have HH := Lib.hid hH
  clear hT hL hE hl0 hBl hbx k1 k2 hH hw1 e0 hn
  go_enter Try.func31, Try.ntmps31
  go_upto_region 1 with fail
  rw [HV.out]
  obtain ⟨X, hX⟩ : ∃ X, w.heap.size = X := ⟨_, rfl⟩
  have HX := Lib.hid hX
  rw [hX] at K1 K2 HH ⊢
  clear HV hX HT
  go_cut [14, 15, 16] (fun s t i wx => s = .slice q n cp ∧ t = .int .i64 n ∧ i = .int .i64 0 ∧ wx = w1)
  case first =>
    by_cases h9 : ln ≤ 100
    · obtain rfl : n = ln := by omega
      clear hmin
      go_wp2_with fail
      go_meet
      case rel => exact ⟨rfl, rfl, rfl, rfl⟩
    · obtain rfl : n = 100 := by omega
      have h9' : 100 < ln := by omega
      clear h9 hmin
      go_wp2_with fail
      go_meet
      case rel => exact ⟨rfl, rfl, rfl, rfl⟩
  case rest =>
  obtain ⟨rfl, rfl, rfl, hwc⟩ := hcut
  rw [hwc]
  clear hwc rU hmin
  go_wp2_with fail
  go_loopg [16] n (fun g i wr => ∃ (t : Nat) (a' : Option Addr) (c' : Nat), t + g = n ∧ i = .int .i64 t ∧ Hid (wr.heap[X]? = some (.cells #[.int .i64 s, .int .i64 k, .slice a' len c'] 33 (0, 0))) ∧ Hid (wr.heap[X + 1]? = some (.cells #[.int .i64 0, .int .i64 0, .slice none 0 0] 33 (0, 0))) ∧ Hid (Held wr X a' len c' (putB B (allP s k (l.take t)))) ∧ Hid (Below w.heap.size w wr) ∧ Hid (a' = a ∨ ∃ g, a' = some ⟨g, 0, none⟩ ∧ w.heap.size ≤ g))
  case atStart => exact ⟨0, a, cap, by omega, rfl, K1, K2, HH, HB1, Lib.hid (Or.inl rfl)⟩
  case round =>
    clear K1 K2 HH HB1
    obtain ⟨t, a', c', ht0, rfl, K1, K2, HH, HB, HWH⟩ := hrel
    have HJ := Lib.hid ht0
    have ht : t ≤ n := by omega
    clear ht0
    by_cases hlt : t < n
    · obtain ⟨x, hx⟩ : ∃ x, l[t]? = some x := ⟨_, List.getElem?_eq_getElem (by rw [HLN.out.1]; omega)⟩
      obtain ⟨b1, o1, ha, hbs, c9⟩ := HL.out.one HB.out (map_get hx)
      have HN : Hid (putB B (allP s k (l.take (t + 1))) = putB (putB B (allP s k (l.take t))) (places x s k)) := Lib.hid (by rw [allP_snoc hx, putB_append])
      have hlen : (putB B (allP s k (l.take t))).length = len := by rw [putB_len]; exact HLN.out.2
      generalize putB B (allP s k (l.take t)) = L at *
      have HLL : Hid ((putB L (places x s k)).length = len) := Lib.hid (by rw [putB_len]; exact hlen)
      have HC := Lib.hid (HP.out wr a' c' L x HH.out.tab)
      obtain ⟨⟨d0, d1, d2⟩, _⟩ := three_cells K1.out
      have hXs : X + 1 < wr.heap.size := (Array.getElem?_eq_some_iff.1 K2.out).1
      subst ha
      clear hx hlen
      generalize putB L (places x s k) = M at *
      go_wp2_with fail
      refine HC.out.mono ?_
      rintro e w2 ⟨v2, rfl, hO, hb⟩
      obtain ⟨g2, c2, rfl, hg2, _⟩ := own_spotB hO (by rw [HLL.out]; have := H1L.out; omega)
      rw [HLL.out] at hO ⊢
      obtain ⟨a2, ha2⟩ : ∃ a2 : Option Addr, some ⟨g2, 0, none⟩ = a2 := ⟨_, rfl⟩
      rw [ha2] at hO ⊢
      have HW2 : Hid (a2 = a ∨ ∃ g, a2 = some ⟨g, 0, none⟩ ∧ w.heap.size ≤ g) := Lib.hid (Or.inr ⟨g2, ha2.symm, by have h1 := HB.out.size; have h2 := hb.size; omega⟩)
      clear ha2 hg2
      have hz := SF.new (S := s) (K := k) hO
      have hbb := below_on hb hz.2
      obtain ⟨w3, hw3⟩ : ∃ w3, w2.alloc (.cells #[.int .i64 s, .int .i64 k, .slice a2 len c2] 33) = w3 := ⟨_, rfl⟩
      have hO3 := hO.alloc (.cells #[.int .i64 s, .int .i64 k, .slice a2 len c2] 33)
      rw [hw3] at hz hbb hO3
      obtain ⟨Y, hY⟩ : ∃ Y, w2.heap.size = Y := ⟨_, rfl⟩
      rw [hY] at hz
      have HS := Lib.hid hz.1
      have HVX := Lib.hid (And.intro hw3 hY)
      have J1 := Lib.hid (kept_blk3 hbb K1.out)
      have J2 := Lib.hid (kept_blk3 hbb K2.out)
      have HD := Lib.hid (Held.of_own hO3 hXs)
      have HB3 := Lib.hid (below_on HB.out hbb)
      clear hz hbb hO hO3 hb hw3 hY HC d0 d1 d2 K1 K2 HH HB
      go_upto_region 5 with fail
      rw [HVX.out.1, HVX.out.2]
      clear HVX
      obtain ⟨d0, d1, d2⟩ := HS.out.cells
      obtain ⟨⟨q0, q1, q2⟩, _⟩ := three_cells J1.out
      have HN1 := Lib.hid (three_set (x' := s) (y' := k) (v' := .slice a2 len c2) J1.out)
      have HN2 := Lib.hid (blk_else3 (a := ⟨X, 2, none⟩) (v := .slice a2 len c2) (blk_else3 (a := ⟨X, 1, none⟩) (v := .int .i64 k) (blk_else3 (a := ⟨X, 0, none⟩) (v := .int .i64 s) J2.out (by show X + 1 ≠ X; omega)) (by show X + 1 ≠ X; omega)) (by show X + 1 ≠ X; omega))
      have HN3 := Lib.hid (((HD.out.set 0 (.int .i64 s) X (Or.inl rfl)).set 1 (.int .i64 k) X (Or.inl rfl)).set 2 (.slice a2 len c2) X (Or.inl rfl))
      have hXX : w.heap.size ≤ X := by rw [HX.out]; exact Nat.le_refl _
      have HN4 := Lib.hid (((HB3.out.setCell (p := ⟨X, 0, none⟩) hXX (.int .i64 s)).setCell (p := ⟨X, 1, none⟩) hXX (.int .i64 k)).setCell (p := ⟨X, 2, none⟩) hXX (.slice a2 len c2))
      clear J1 J2 HD HB3 HS hXX
      go_wp2_with fail
      go_roundg (n - (t + 1))
      case measure => have := HJ.out; omega
      case rel => exact ⟨t + 1, a2, c2, by omega, by go_num, HN1, HN2, by rw [HN.out]; exact HN3, HN4, HW2⟩
    · obtain rfl : t = n := by omega
      obtain ⟨⟨d0, d1, d2⟩, _⟩ := three_cells K1.out
      obtain ⟨⟨q0, q1, q2⟩, f0, f1, f2⟩ := three_cells K2.out
      have Z := Lib.hid (three_cells (three_set (x' := s) (y' := k) (v' := .slice a' len c') K2.out)).1
      have HZ3 := Lib.hid (((HH.out.set 0 (.int .i64 s) (X + 1) (Or.inr rfl)).set 1 (.int .i64 k) (X + 1) (Or.inr rfl)).set 2 (.slice a' len c') (X + 1) (Or.inr rfl)).tab
      have hXX : w.heap.size ≤ X + 1 := by rw [HX.out]; exact Nat.le_succ _
      have HZ4 := Lib.hid (((HB.out.setCell (p := ⟨X + 1, 0, none⟩) hXX (.int .i64 s)).setCell (p := ⟨X + 1, 1, none⟩) hXX (.int .i64 k)).setCell (p := ⟨X + 1, 2, none⟩) hXX (.slice a' len c'))
      clear K1 K2 HH HB hXX HP
      go_wp2_with fail
      obtain ⟨z0, z1, z2⟩ := Z.out
      generalize (((wr.setCell { block := X + 1, off := 0 } (Value.int IntKind.i64 s)).setCell { block := X + 1, off := 1 } (Value.int IntKind.i64 k)).setCell { block := X + 1, off := 2 } (Value.slice a' len c')) = w5 at *
      clear d0 d1 d2 q0 q1 q2 f0 f1 f2 Z
      try simp only [Exit.inBlock, Exit.then]
      refine bodyPost_ret (by simp [results, Try.results31, go_sem, z0, z1, z2, Result.andThen]; try rfl) rfl ?_
      exact ⟨a', c', rfl, HZ3.out, HZ4.out, HWH.out⟩

theorem fill_any (s k : Nat) (a q : Option Addr) (len cap ln cp : Nat) (B : List Bool) (l : List Int) (w : World) (hT : Tab w a len cap 1 (B.map bC)) (hL : Tab w q ln cp 1 (l.map iC)) (hE : filterE s k len = 0) :
    Calls Try.prog 31 #[.agg #[.int .i64 s, .int .i64 k, .slice a len cap], .slice q ln cp] w fun e w' => ∃ a' c', e = .returned (.tuple #[.agg #[.int .i64 s, .int .i64 k, .slice a' len c'], .bool true]) ∧ Tab w' a' len c' 1 ((putB B (allP s k (l.take 100))).map bC) ∧ Below w.heap.size w w' := by
  refine (fill_where s k a q len cap ln cp B l w hT hL hE).mono ?_
  rintro e w' ⟨a', c', h1, h2, h3, _⟩
  exact ⟨a', c', h1, h2, h3⟩
end Go.Proofs.Ytoijeafhohcbdaa
