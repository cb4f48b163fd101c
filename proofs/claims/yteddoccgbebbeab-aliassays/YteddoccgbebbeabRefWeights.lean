/- The contract of culref.SameAlias, beside that of the document's own weights. -/
import Derived.Test.YteddoccgbebbeabRefWeight
import Derived.Test.YteddoccgbebbeabAliasCheck
import Derived.Test.YteddoccgbebbeabEqualInts
namespace Go.Proofs.Yteddoccgbebbeab
open Go.ChangeShapes Go.WideShapes Go.ChangeAt Go.RowKit

theorem heap_two0 (w : World) (o o' : Obj) : ((w.alloc o).alloc o').heap[w.heap.size]? = some o := by
  rw [Below.heap_alloc _ _ _ (by simp)]
  exact (MapKept.heap_alloc w o).1
set_option maxRecDepth 100000 in
set_option maxHeartbeats 1000000 in
theorem sameAlias_yes (A : Int) (a b a' b' : Option Addr) (la ca lb cb la' ca' lb' cb' : Nat) (O R : List Int) (w : World) (h1 : Tab w a la ca 1 (O.map iC)) (h2 : Tab w b lb cb 1 (R.map iC)) (h1' : Tab w a' la' ca' 1 (O.map iC)) (h2' : Tab w b' lb' cb' 1 (R.map iC)) :
    Calls Try.prog 16 #[aliasV A a la ca b lb cb, aliasV A a' la' ca' b' lb' cb'] w fun e w' => e = .returned (.bool true) ∧ Below w.heap.size w w' := by
  unfold aliasV
  have hb : Below w.heap.size w ((w.alloc (.cells #[.int .i64 A, .slice a la ca, .slice b lb cb] 27)).alloc (.cells #[.int .i64 A, .slice a' la' ca', .slice b' lb' cb'] 27)) := ((Below.refl _ _).alloc (Nat.le_refl _) _).alloc (by simp) _
  have HE := Lib.hid (equal_ints a a' la ca la' ca' O O _ (h1.below hb) (h1'.below hb) true (by simp))
  have HR := Lib.hid (fun W (hW : Below w.heap.size w W) => equal_ints b b' lb cb lb' cb' R R W (h2.below hW) (h2'.below hW) true (by simp))
  have HB := Lib.hid hb
  have hk1 : ((w.alloc (.cells #[.int .i64 A, .slice a la ca, .slice b lb cb] 27)).alloc (.cells #[.int .i64 A, .slice a' la' ca', .slice b' lb' cb'] 27)).heap[w.heap.size]? = some (.cells #[.int .i64 A, .slice a la ca, .slice b lb cb] 27 (0, 0)) := heap_two0 _ _ _
  have hk2 : ((w.alloc (.cells #[.int .i64 A, .slice a la ca, .slice b lb cb] 27)).alloc (.cells #[.int .i64 A, .slice a' la' ca', .slice b' lb' cb'] 27)).heap[w.heap.size + 1]? = some (.cells #[.int .i64 A, .slice a' la' ca', .slice b' lb' cb'] 27 (0, 0)) := by
    have := (MapKept.heap_alloc (w.alloc (.cells #[.int .i64 A, .slice a la ca, .slice b lb cb] 27)) (.cells #[.int .i64 A, .slice a' la' ca', .slice b' lb' cb'] 27)).1
    simpa using this
  have K1 := Lib.hid hk1
  have K2 := Lib.hid hk2
  clear h1 h2 h1' h2' hb hk1 hk2
  have tA : (A == A) = true := by simp
  go_enter Try.func16, Try.ntmps16
  go_wp2_with fail
  refine HE.out.mono ?_
  rintro e w1 ⟨rfl, hb1⟩
  obtain ⟨⟨c0, c1, c2⟩, _, _, _⟩ := alias_cells (kept_blk hb1 K1.out)
  obtain ⟨⟨d0, d1, d2⟩, _, _, _⟩ := alias_cells (kept_blk hb1 K2.out)
  have HB1 := Lib.hid (below_on HB.out hb1)
  clear hb1 HE
  go_wp2_with fail
  refine (HR.out _ HB1.out).mono ?_
  rintro e w2 ⟨rfl, hb2⟩
  go_wp2
  go_ret
  exact ⟨rfl, below_on HB1.out hb2⟩
end Go.Proofs.Yteddoccgbebbeab
