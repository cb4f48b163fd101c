/- The contracts of the program's bloom.Put, bloom.Has and bloom.Join whatever is handed in; and filters in variables. -/
import Derived.Test.YtffgoekdjcempabBloomHas
import Derived.Test.YtffgoekdjcempabBloomJoin
namespace Go.Proofs.Ytffgoekdjcempab
open Go.ChangeShapes Go.WideShapes Go.ChangeAt Go.RowKit
open Bloom

/-- a filter in a variable that is written no more -/
def SF (w : World) (X : Nat) (S K : Int) (q : Option Addr) (n c : Nat) (B : List Bool) : Prop := w.heap[X]? = some (.cells #[.int .i64 S, .int .i64 K, .slice q n c] 24 (0, 0)) ∧ Tab w q n c 1 (B.map bC)
theorem SF.below {w w' : World} {X : Nat} {S K : Int} {q : Option Addr} {n c : Nat} {B : List Bool} (h : SF w X S K q n c B) (hb : Below w.heap.size w w') : SF w' X S K q n c B := ⟨kept_blk3 hb h.1, h.2.below hb⟩
theorem SF.new {w : World} {base : Nat} {S K : Int} {q : Option Addr} {n c : Nat} {B : List Bool} (h : Own w base 4 1 (.slice q n c) (B.map bC)) : SF (w.alloc (.cells #[.int .i64 S, .int .i64 K, .slice q n c] 24)) w.heap.size S K q n c B ∧ Below w.heap.size w (w.alloc (.cells #[.int .i64 S, .int .i64 K, .slice q n c] 24)) :=
  ⟨⟨(MapKept.heap_alloc w _).1, (h.alloc _).tab_of⟩, (Below.refl _ _).alloc (Nat.le_refl _) _⟩
theorem SF.cells {w : World} {X : Nat} {S K : Int} {q : Option Addr} {n c : Nat} {B : List Bool} (h : SF w X S K q n c B) : w.cell? ⟨X, 0, none⟩ = some (.int .i64 S) ∧ w.cell? ⟨X, 1, none⟩ = some (.int .i64 K) ∧ w.cell? ⟨X, 2, none⟩ = some (.slice q n c) := (three_cells h.1).1
theorem tab_len {w : World} {a : Option Addr} {len cap k : Nat} {R : List (List Value)} (h : Tab w a len cap k R) : len ≤ 9223372036854775807 := by
  have h1 := h.hle
  have h2 := h.hmax
  unfold maxLen at h2
  exact Nat.le_trans h1 h2

theorem fput_all (S K : Int) (a : Option Addr) (len cap : Nat) (B : List Bool) (x : Int) : ∃ (S' K' : Int) (B' : List Bool), Hid ((filterE S K len ≠ 0 ∧ S' = 0 ∧ K' = 0 ∧ B' = []) ∨ (filterE S K len = 0 ∧ S' = S ∧ K' = K ∧ B' = putB B (places x S.toNat K.toNat))) ∧
    Hid (∀ W : World, Tab W a len cap 1 (B.map bC) → Calls Try.prog 10 #[.agg #[.int .i64 S, .int .i64 K, .slice a len cap], .int .i64 x] W fun e w' => ∃ v, e = .returned (.tuple #[.agg #[.int .i64 S', .int .i64 K', v], .int .i64 (filterE S K len)]) ∧ Own w' W.heap.size 4 1 v (B'.map bC) ∧ Below W.heap.size W w') := by
  by_cases hE : filterE S K len = 0
  · obtain ⟨s, k, rfl, rfl, _⟩ := filterE_zero hE
    refine ⟨s, k, _, Lib.hid (Or.inr ⟨hE, rfl, rfl, rfl⟩), Lib.hid (fun W hT => ?_)⟩
    rw [hE, Int.toNat_natCast, Int.toNat_natCast]
    exact fput_ok s k a len cap B x W hT hE
  · refine ⟨0, 0, [], Lib.hid (Or.inl ⟨hE, rfl, rfl, rfl⟩), Lib.hid (fun W hT => ?_)⟩
    refine (fput_bad S K a len cap x (tab_len hT) W hE).mono ?_
    rintro e w' ⟨rfl, hb⟩
    exact ⟨_, rfl, Own.nil _ _ _ _, hb⟩

theorem fhas_all (S K : Int) (a : Option Addr) (len cap : Nat) (B : List Bool) (x : Int) : ∃ h : Bool, Hid ((filterE S K len ≠ 0 ∧ h = false) ∨ (filterE S K len = 0 ∧ h = hasB B (places x S.toNat K.toNat))) ∧
    Hid (∀ W : World, Tab W a len cap 1 (B.map bC) → Calls Try.prog 44 #[.agg #[.int .i64 S, .int .i64 K, .slice a len cap], .int .i64 x] W fun e w' => e = .returned (.tuple #[.bool h, .int .i64 (filterE S K len)]) ∧ Below W.heap.size W w') := by
  by_cases hE : filterE S K len = 0
  · obtain ⟨s, k, rfl, rfl, _⟩ := filterE_zero hE
    refine ⟨_, Lib.hid (Or.inr ⟨hE, rfl⟩), Lib.hid (fun W hT => ?_)⟩
    rw [hE, Int.toNat_natCast, Int.toNat_natCast]
    exact fhas_ok s k a len cap B x W hT hE
  · refine ⟨false, Lib.hid (Or.inl ⟨hE, rfl⟩), Lib.hid (fun W hT => ?_)⟩
    exact fhas_bad S K a len cap x (tab_len hT) W hE

theorem joinFE_zero {S K S2 K2 : Int} {n n2 : Nat} (h : joinFE S K n S2 K2 n2 = 0) : filterE S K n = 0 ∧ filterE S2 K2 n2 = 0 ∧ S2 = S ∧ K2 = K ∧ n2 = n := by
  unfold joinFE at h
  split at h
  · omega
  · split at h
    · omega
    · split at h
      · cases h
      · obtain ⟨s, k, h1, h2, _, _, _, _, h3⟩ := filterE_zero (S := S) (K := K) (n := n) (by omega)
        obtain ⟨s', k', h4, h5, _, _, _, _, h6⟩ := filterE_zero (S := S2) (K := K2) (n := n2) (by omega)
        exact ⟨by omega, by omega, by omega, by omega, by omega⟩
theorem fjoin_all (S K S2 K2 : Int) (a b : Option Addr) (len cap len2 cap2 : Nat) (B C : List Bool) : ∃ (S' K' : Int) (D : List Bool), Hid ((joinFE S K len S2 K2 len2 ≠ 0 ∧ S' = 0 ∧ K' = 0 ∧ D = []) ∨ (joinFE S K len S2 K2 len2 = 0 ∧ S' = S ∧ K' = K ∧ D = orB B C)) ∧
    Hid (∀ W : World, Tab W a len cap 1 (B.map bC) → Tab W b len2 cap2 1 (C.map bC) → Calls Try.prog 11 #[.agg #[.int .i64 S, .int .i64 K, .slice a len cap], .agg #[.int .i64 S2, .int .i64 K2, .slice b len2 cap2]] W fun e w' => ∃ v, e = .returned (.tuple #[.agg #[.int .i64 S', .int .i64 K', v], .int .i64 (joinFE S K len S2 K2 len2)]) ∧ Own w' W.heap.size 4 1 v (D.map bC) ∧ Below W.heap.size W w') := by
  by_cases hE : joinFE S K len S2 K2 len2 = 0
  · refine ⟨S, K, _, Lib.hid (Or.inr ⟨hE, rfl, rfl, rfl⟩), Lib.hid (fun W hT hT2 => ?_)⟩
    rw [hE]
    obtain ⟨h1, h2, rfl, rfl, h3⟩ := joinFE_zero hE
    obtain ⟨s, k, rfl, rfl, _⟩ := filterE_zero h1
    exact fjoin_ok s k a b len cap len2 cap2 B C W hT hT2 h1 h2
  · refine ⟨0, 0, [], Lib.hid (Or.inl ⟨hE, rfl, rfl, rfl⟩), Lib.hid (fun W hT hT2 => ?_)⟩
    refine (fjoin_bad S K S2 K2 a b len cap len2 cap2 (tab_len hT) (tab_len hT2) W hE).mono ?_
    rintro e w' ⟨rfl, hb⟩
    exact ⟨_, rfl, Own.nil _ _ _ _, hb⟩
end Go.Proofs.Ytffgoekdjcempab
