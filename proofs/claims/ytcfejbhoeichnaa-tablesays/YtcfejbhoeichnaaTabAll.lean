/- The contracts of the program's table.Put, table.Ask and table.Join whatever is handed in; sketches in variables; sketches that are written out. -/
import Derived.Test.YtcfejbhoeichnaaTabJoin
import Derived.Test.YtcfejbhoeichnaaTabAsk
import Derived.Test.YtcfejbhoeichnaaLit
namespace Go.Proofs.Ytcfejbhoeichnaa
open Go.ChangeShapes Go.WideShapes Go.ChangeAt Go.RowKit
open Tbl

namespace Tbl
theorem putE_zero {W : Int} {R : List (List Int)} {x n : Int} (h : putE W R x n = 0) : ∃ s : Nat, W = s ∧ GoodT s R ∧ (0 ≤ n ∧ n ≤ 1000000000000) ∧ tooE (putR s x n R) = 0 := by
  unfold putE at h
  by_cases h1 : tabE W R ≠ 0
  · rw [if_pos h1] at h; exact absurd h h1
  · rw [if_neg h1] at h
    obtain ⟨s, rfl, hg⟩ := tabE_zero (W := W) (R := R) (by omega)
    cases hn : outB n
    · rw [hn] at h
      rw [if_neg (by simp), Int.toNat_natCast] at h
      exact ⟨s, rfl, hg, outB_no hn, h⟩
    · rw [hn] at h
      rw [if_pos rfl] at h
      cases h
theorem putE_ok {s : Nat} {R : List (List Int)} {x n : Int} (hg : GoodT s R) (h1 : 0 ≤ n) (h2 : n ≤ 1000000000000) : putE s R x n = tooE (putR s x n R) := by
  unfold putE
  rw [if_neg (by rw [tabE_ok hg]; simp), outB_in h1 h2, if_neg (by simp), Int.toNat_natCast]
end Tbl

theorem tput_all (W x n : Int) (a : Option Addr) (len cap : Nat) (R : List (List Int)) : ∃ (S : Int) (R' : List (List Int)), Hid ((putE W R x n ≠ 0 ∧ S = 0 ∧ R' = []) ∨ (putE W R x n = 0 ∧ ∃ s : Nat, W = s ∧ GoodT s R ∧ (0 ≤ n ∧ n ≤ 1000000000000) ∧ S = s ∧ R' = putR s x n R)) ∧
    Hid (∀ (P : Nat → Prop) (U : World), TTx U P a len cap R → Calls Try.prog 17 #[.agg #[.int .i64 W, .slice a len cap], .int .i64 x, .int .i64 n] U fun e w' => ∃ (a' : Option Addr) (l' c' : Nat), e = .returned (.tuple #[.agg #[.int .i64 S, .slice a' l' c'], .int .i64 (putE W R x n)]) ∧ TTx w' (fun b => U.heap.size ≤ b) a' l' c' R' ∧ Below U.heap.size U w') := by
  by_cases hE : tabE W R ≠ 0
  · have e : putE W R x n = tabE W R := if_pos hE
    rw [e]
    refine ⟨0, [], Lib.hid (Or.inl ⟨hE, rfl, rfl⟩), Lib.hid (fun P U hT => ?_)⟩
    refine (tput_bad W x n a len cap R P U hT hE).mono ?_
    rintro e w' ⟨rfl, hb⟩
    exact ⟨none, 0, 0, rfl, TTx.nil _ _, hb⟩
  · obtain ⟨s, rfl, hg⟩ := tabE_zero (W := W) (R := R) (by omega)
    cases hn : outB n
    · obtain ⟨h1, h2⟩ := outB_no hn
      rw [putE_ok hg h1 h2]
      by_cases ht : tooE (putR s x n R) = 0
      · refine ⟨s, putR s x n R, Lib.hid (Or.inr ⟨ht, s, rfl, hg, ⟨h1, h2⟩, rfl, rfl⟩), Lib.hid (fun P U hT => ?_)⟩
        refine (tput_ok s x n a len cap R P U hT hg h1 h2).mono ?_
        rintro e w' ⟨S, a', l', c', R', rfl, ⟨_, rfl, rfl⟩ | ⟨h, _⟩, htt, hb⟩
        · exact ⟨a', l', c', rfl, htt, hb⟩
        · exact absurd ht h
      · refine ⟨0, [], Lib.hid (Or.inl ⟨ht, rfl, rfl⟩), Lib.hid (fun P U hT => ?_)⟩
        refine (tput_ok s x n a len cap R P U hT hg h1 h2).mono ?_
        rintro e w' ⟨S, a', l', c', R', rfl, ⟨h, _⟩ | ⟨_, rfl, rfl⟩, htt, hb⟩
        · exact absurd h ht
        · exact ⟨a', l', c', rfl, htt, hb⟩
    · have e : putE (s : Int) R x n = 1 := by
        unfold putE
        rw [if_neg (by rw [tabE_ok hg]; simp), hn, if_pos rfl]
      rw [e]
      refine ⟨0, [], Lib.hid (Or.inl ⟨by decide, rfl, rfl⟩), Lib.hid (fun P U hT => ?_)⟩
      refine (tput_arg s x n a len cap R P U hT (tabE_ok hg) hn).mono ?_
      rintro e w' ⟨rfl, hb⟩
      exact ⟨none, 0, 0, rfl, TTx.nil _ _, hb⟩

theorem task_all (W x : Int) (a : Option Addr) (len cap : Nat) (R : List (List Int)) : ∃ z : Int, Hid ((tabE W R ≠ 0 ∧ z = 0) ∨ (tabE W R = 0 ∧ ∃ s : Nat, W = s ∧ GoodT s R ∧ z = askR s x R)) ∧
    Hid (∀ (P : Nat → Prop) (U : World), TTx U P a len cap R → Calls Try.prog 18 #[.agg #[.int .i64 W, .slice a len cap], .int .i64 x] U fun e w' => e = .returned (.tuple #[.int .i64 z, .int .i64 (tabE W R)]) ∧ Below U.heap.size U w') := by
  by_cases hE : tabE W R ≠ 0
  · refine ⟨0, Lib.hid (Or.inl ⟨hE, rfl⟩), Lib.hid (fun P U hT => ?_)⟩
    exact task_bad W x a len cap R P U hT hE
  · obtain ⟨s, rfl, hg⟩ := tabE_zero (W := W) (R := R) (by omega)
    rw [tabE_ok hg]
    exact ⟨_, Lib.hid (Or.inr ⟨rfl, s, rfl, hg, rfl⟩), Lib.hid (fun P U hT => task_ok s x a len cap R P U hT hg)⟩

theorem tjoin_all (W V : Int) (a b : Option Addr) (len cap len2 cap2 : Nat) (R Q : List (List Int)) : ∃ (S : Int) (R' : List (List Int)), Hid ((joinE W R V Q ≠ 0 ∧ S = 0 ∧ R' = []) ∨ (joinE W R V Q = 0 ∧ ∃ s : Nat, W = s ∧ V = s ∧ GoodT s R ∧ GoodT s Q ∧ R.length = Q.length ∧ S = s ∧ R' = joinR R Q)) ∧
    Hid (∀ (P P2 : Nat → Prop) (U : World), TTx U P a len cap R → TTx U P2 b len2 cap2 Q → Calls Try.prog 19 #[.agg #[.int .i64 W, .slice a len cap], .agg #[.int .i64 V, .slice b len2 cap2]] U fun e w' => ∃ (a' : Option Addr) (l' c' : Nat), e = .returned (.tuple #[.agg #[.int .i64 S, .slice a' l' c'], .int .i64 (joinE W R V Q)]) ∧ TTx w' (fun b => U.heap.size ≤ b) a' l' c' R' ∧ Below U.heap.size U w') := by
  by_cases hbad : tabE W R ≠ 0 ∨ tabE V Q ≠ 0 ∨ W ≠ V ∨ R.length ≠ Q.length
  · have e : joinE W R V Q = (if tabE W R ≠ 0 then tabE W R else if tabE V Q ≠ 0 then tabE V Q else 7) ∧ joinE W R V Q ≠ 0 := by
      unfold joinE
      by_cases h1 : tabE W R ≠ 0
      · rw [if_pos h1, if_pos h1]; exact ⟨rfl, h1⟩
      · rw [if_neg h1, if_neg h1]
        by_cases h2 : tabE V Q ≠ 0
        · rw [if_pos h2, if_pos h2]; exact ⟨rfl, h2⟩
        · rw [if_neg h2, if_neg h2, if_pos (by rcases hbad with h | h | h; exact absurd h h1; exact absurd h h2; exact h)]
          exact ⟨rfl, by decide⟩
    refine ⟨0, [], Lib.hid (Or.inl ⟨e.2, rfl, rfl⟩), Lib.hid (fun P P2 U hT hT2 => ?_)⟩
    refine (tjoin_bad W V a b len cap len2 cap2 R Q P P2 U hT hT2 hbad).mono ?_
    rintro e' w' ⟨rfl, hb⟩
    rw [e.1]
    exact ⟨none, 0, 0, rfl, TTx.nil _ _, hb⟩
  · have h1 : tabE W R = 0 := by
      by_cases h : tabE W R = 0
      · exact h
      · exact absurd (Or.inl h) hbad
    have h2 : tabE V Q = 0 := by
      by_cases h : tabE V Q = 0
      · exact h
      · exact absurd (Or.inr (Or.inl h)) hbad
    have h3 : W = V := by
      by_cases h : W = V
      · exact h
      · exact absurd (Or.inr (Or.inr (Or.inl h))) hbad
    have h4 : R.length = Q.length := by
      by_cases h : R.length = Q.length
      · exact h
      · exact absurd (Or.inr (Or.inr (Or.inr h))) hbad
    subst h3
    obtain ⟨s, rfl, hg⟩ := tabE_zero h1
    obtain ⟨s2, hs, hg2⟩ := tabE_zero h2
    obtain rfl : s2 = s := by omega
    have e : joinE (s2 : Int) R s2 Q = tooE (joinR R Q) := by
      unfold joinE
      rw [if_neg (by rw [h1]; simp), if_neg (by rw [h2]; simp), if_neg (by rw [h4]; simp)]
    rw [e]
    have hlen : ∀ {P P2 : Nat → Prop} {U : World}, TTx U P a len cap R → TTx U P2 b len2 cap2 Q → len2 = len := fun k1 k2 => by rw [← k1.len, ← k2.len, h4]
    by_cases ht : tooE (joinR R Q) = 0
    · refine ⟨s2, joinR R Q, Lib.hid (Or.inr ⟨ht, s2, rfl, rfl, hg, hg2, h4, rfl, rfl⟩), Lib.hid (fun P P2 U hT hT2 => ?_)⟩
      obtain rfl := hlen hT hT2
      refine (tjoin_ok s2 a b len2 cap cap2 R Q P P2 U hT hT2 hg hg2).mono ?_
      rintro e w' ⟨S, a', l', c', R', rfl, ⟨_, rfl, rfl⟩ | ⟨h, _⟩, htt, hb⟩
      · exact ⟨a', l', c', rfl, htt, hb⟩
      · exact absurd ht h
    · refine ⟨0, [], Lib.hid (Or.inl ⟨ht, rfl, rfl⟩), Lib.hid (fun P P2 U hT hT2 => ?_)⟩
      obtain rfl := hlen hT hT2
      refine (tjoin_ok s2 a b len2 cap cap2 R Q P P2 U hT hT2 hg hg2).mono ?_
      rintro e w' ⟨S, a', l', c', R', rfl, ⟨h, _⟩ | ⟨_, rfl, rfl⟩, htt, hb⟩
      · exact absurd h ht
      · exact ⟨a', l', c', rfl, htt, hb⟩

namespace Tbl
/-- a sketch in a variable that is written no more -/
def ST (w : World) (X : Nat) (W : Int) (q : Option Addr) (n c : Nat) (R : List (List Int)) : Prop := w.heap[X]? = some (.cells #[.int .i64 W, .slice q n c] 39 (0, 0)) ∧ TTx w anyB q n c R
theorem ST.below {w w' : World} {X : Nat} {W : Int} {q : Option Addr} {n c : Nat} {R : List (List Int)} (h : ST w X W q n c R) (hb : Below w.heap.size w w') : ST w' X W q n c R := ⟨kept hb h.1, h.2.below hb⟩
theorem ST.new {w : World} {P : Nat → Prop} {W : Int} {q : Option Addr} {n c : Nat} {R : List (List Int)} (h : TTx w P q n c R) : ST (w.alloc (.cells #[.int .i64 W, .slice q n c] 39)) w.heap.size W q n c R ∧ Below w.heap.size w (w.alloc (.cells #[.int .i64 W, .slice q n c] 39)) :=
  have hb : Below w.heap.size w (w.alloc (.cells #[.int .i64 W, .slice q n c] 39)) := (Below.refl _ _).alloc (Nat.le_refl _) _
  ⟨⟨(MapKept.heap_alloc w _).1, h.any.below hb⟩, hb⟩
theorem ST.cells {w : World} {X : Nat} {W : Int} {q : Option Addr} {n c : Nat} {R : List (List Int)} (h : ST w X W q n c R) : w.cell? ⟨X, 0, none⟩ = some (.int .i64 W) ∧ w.cell? ⟨X, 1, none⟩ = some (.slice q n c) := (two_cells h.1).1
/-- [][]int{{n}} -/
theorem tt_one (w : World) (n : Int) : TTx ((w.alloc (.cells #[.int .i64 n] 3)).alloc (.cells #[.slice (some ⟨w.heap.size, 0, none⟩) 1 1] 34)) anyB (some ⟨w.heap.size + 1, 0, none⟩) 1 1 [[n]] := by
  have h1 := tab_lit w 3 1 1 ([n].map iC) #[.int .i64 n] rfl rfl (rows_of iC_len _) (by decide) _ rfl
  have h2 := tab_lit (w.alloc (.cells #[.int .i64 n] 3)) 34 1 1 ([(⟨some ⟨w.heap.size, 0, none⟩, 1, 1, [n]⟩ : Sl Int)].map slC) #[.slice (some ⟨w.heap.size, 0, none⟩) 1 1] rfl rfl (by intro r hr; obtain ⟨y, _, rfl⟩ := List.mem_map.1 hr; rfl) (by decide) (w.heap.size + 1) (by simp)
  refine TTx.of h2 (fun s hs => ?_)
  rw [List.mem_singleton] at hs
  subst hs
  exact h1.below ((Below.refl _ _).alloc (Nat.le_refl _) _)
/-- [][]int{{n}, {m}} -/
theorem tt_two (w : World) (n m : Int) : TTx (((w.alloc (.cells #[.int .i64 n] 3)).alloc (.cells #[.int .i64 m] 3)).alloc (.cells #[.slice (some ⟨w.heap.size, 0, none⟩) 1 1, .slice (some ⟨w.heap.size + 1, 0, none⟩) 1 1] 34)) anyB (some ⟨w.heap.size + 2, 0, none⟩) 2 2 [[n], [m]] := by
  have h1 := tab_lit w 3 1 1 ([n].map iC) #[.int .i64 n] rfl rfl (rows_of iC_len _) (by decide) _ rfl
  have h2 := tab_lit (w.alloc (.cells #[.int .i64 n] 3)) 3 1 1 ([m].map iC) #[.int .i64 m] rfl rfl (rows_of iC_len _) (by decide) (w.heap.size + 1) (by simp)
  have h3 := tab_lit ((w.alloc (.cells #[.int .i64 n] 3)).alloc (.cells #[.int .i64 m] 3)) 34 1 2 ([(⟨some ⟨w.heap.size, 0, none⟩, 1, 1, [n]⟩ : Sl Int), ⟨some ⟨w.heap.size + 1, 0, none⟩, 1, 1, [m]⟩].map slC) #[.slice (some ⟨w.heap.size, 0, none⟩) 1 1, .slice (some ⟨w.heap.size + 1, 0, none⟩) 1 1] rfl rfl (by intro r hr; obtain ⟨y, _, rfl⟩ := List.mem_map.1 hr; rfl) (by decide) (w.heap.size + 2) (by simp)
  refine TTx.of h3 (fun s hs => ?_)
  rcases List.mem_cons.1 hs with rfl | hs
  · exact (h1.below ((Below.refl _ _).alloc (Nat.le_refl _) _)).below ((Below.refl _ _).alloc (Nat.le_refl _) _)
  · rw [List.mem_singleton] at hs
    subst hs
    exact h2.below ((Below.refl _ _).alloc (Nat.le_refl _) _)
theorem col_one (x : Int) (i : Nat) : colN 1 x i = 0 := by
  have := colN_lt (s := 1) (x := x) (i := i) (by decide)
  omega
theorem good_one {n : Int} (h1 : 0 ≤ n) (h2 : n ≤ 1000000000000) : GoodT 1 [[n]] :=
  ⟨by decide, by decide, by simp, by simp, fun r hr => by rw [List.mem_singleton.1 hr]; rfl, fun r hr x hx => by
    rw [List.mem_singleton] at hr
    subst hr
    rw [List.mem_singleton] at hx
    subst hx
    exact ⟨h1, h2⟩⟩
theorem good_two {n m : Int} (h1 : 0 ≤ n ∧ n ≤ 1000000000000) (h2 : 0 ≤ m ∧ m ≤ 1000000000000) : GoodT 1 [[n], [m]] :=
  ⟨by decide, by decide, by simp, by simp, fun r hr => by
    rcases List.mem_cons.1 hr with rfl | hr
    · rfl
    · rw [List.mem_singleton.1 hr]; rfl, fun r hr x hx => by
    rcases List.mem_cons.1 hr with rfl | hr
    · rw [List.mem_singleton] at hx; subst hx; exact h1
    · rw [List.mem_singleton] at hr; subst hr; rw [List.mem_singleton] at hx; subst hx; exact h2⟩
end Tbl
end Go.Proofs.Ytcfejbhoeichnaa
