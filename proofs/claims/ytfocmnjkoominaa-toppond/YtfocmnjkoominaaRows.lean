/-
  No cell of these rows narrows 'for every input' (looked for: loops, veiled, ifaces, maps, wideKeys, modest, calm, conditions, laid).
  DERIVED. THE GIVEN ROWS OF THIS SEAT. 5 by the template 'for every input the law returns true; each argument reads behind the call as it read before'; 0 by the template 'total and deterministic' (their statements: YtfocmnjkoominaaTotals.lean).
  GIVEN WITH THE SEED: the statements are not yours to turn. If you find one false, say at which input.
  Laid BY PROGRAM, IN A SANDBOX (cutbox-rows.mjs): the forced cells as the released guide's own fill.sh prints them over the translation d05e263bf7580d04… (all of the seat's roots in one cut). By AI agents, Wed Nov 11 2026. No macro, syntax, notation, axiom, sorry.
-/
import Derived.Test.YtfocmnjkoominaaChecked
import GoSem.Claim
import GoSem.ClaimJoined
import GoSem.ClaimMapViews
import Derived.JoinedTies
import Derived.KernelRfl
namespace Go.Proofs.Ytfocmnjkoominaa
/- THE CELL 'sum', in the pinned program and in every row, IS THE sha256 OF THE DUMP (.gsa) THAT YtfocmnjkoominaaProg.lean LOADS. Nothing in Lean hashes anything: it is a label: what it is worth is what the hold of that sum in a sandbox is worth. -/
noncomputable def Try.pinned : Pinned := { name := "ytfocmnjkoominaa", sum := "d05e263bf7580d04eb2bce2db56c57f9952b1dbd47ee37e66ba571d83a93517c", checked := Try.checked }
namespace Rows
def none {H : Type} : Left H := { results := [], args := [] }

/-- 'cullaw.BottomSays': WHATEVER THE INPUT: true; the input reads as it did. -/
def bottomSaysSpec : ChangeSpec := { name := "bottomSays", fn := fun _ => fun
  | [d1, d2, d3] => { results := [.lit (.bool true)], args := [d1, d2, d3] }
  | _ => none }
def bottomSaysRow : OpenClaim := { program := "ytfocmnjkoominaa", sum := "d05e263bf7580d04eb2bce2db56c57f9952b1dbd47ee37e66ba571d83a93517c", func := "cullender/cullaw.BottomSays", spec := "bottomSays", recurses := true, apart := false }
def BottomSaysSaid : Prop := bottomSaysRow.holds Try.pinned (OpenSpec.ofChange bottomSaysSpec)

/-- ITS FALSE NEIGHBOUR: 'it returns false'. Refute it at one input. -/
def bottomSaysWrong : ChangeSpec := { name := "bottomSays", fn := fun _ => fun
  | [d1, d2, d3] => { results := [.lit (.bool false)], args := [d1, d2, d3] }
  | _ => none }
def BottomSaysWrongFalsely : Prop := bottomSaysRow.holds Try.pinned (OpenSpec.ofChange bottomSaysWrong)

/-- 'culkeep.EstSpreads': WHATEVER THE INPUT: true; the input reads as it did. -/
def estSpreadsSpec : ChangeSpec := { name := "estSpreads", fn := fun _ => fun
  | [d1, d2] => { results := [.lit (.bool true)], args := [d1, d2] }
  | _ => none }
def estSpreadsRow : OpenClaim := { program := "ytfocmnjkoominaa", sum := "d05e263bf7580d04eb2bce2db56c57f9952b1dbd47ee37e66ba571d83a93517c", func := "cullender/culkeep.EstSpreads", spec := "estSpreads", unfollowed := true, recurses := true, apart := false }
def EstSpreadsSaid : Prop := estSpreadsRow.holds Try.pinned (OpenSpec.ofChange estSpreadsSpec)

/-- ITS FALSE NEIGHBOUR: 'it returns false'. Refute it at one input. -/
def estSpreadsWrong : ChangeSpec := { name := "estSpreads", fn := fun _ => fun
  | [d1, d2] => { results := [.lit (.bool false)], args := [d1, d2] }
  | _ => none }
def EstSpreadsWrongFalsely : Prop := estSpreadsRow.holds Try.pinned (OpenSpec.ofChange estSpreadsWrong)

/-- 'culkeep.BottomSame': WHATEVER THE INPUT: true; the input reads as it did. -/
def bottomSameSpec : ChangeSpec := { name := "bottomSame", fn := fun _ => fun
  | [d1, d2, d3, d4] => { results := [.lit (.bool true)], args := [d1, d2, d3, d4] }
  | _ => none }
def bottomSameRow : OpenClaim := { program := "ytfocmnjkoominaa", sum := "d05e263bf7580d04eb2bce2db56c57f9952b1dbd47ee37e66ba571d83a93517c", func := "cullender/culkeep.BottomSame", spec := "bottomSame", recurses := true, apart := false }
def BottomSameSaid : Prop := bottomSameRow.holds Try.pinned (OpenSpec.ofChange bottomSameSpec)

/-- ITS FALSE NEIGHBOUR: 'it returns false'. Refute it at one input. -/
def bottomSameWrong : ChangeSpec := { name := "bottomSame", fn := fun _ => fun
  | [d1, d2, d3, d4] => { results := [.lit (.bool false)], args := [d1, d2, d3, d4] }
  | _ => none }
def BottomSameWrongFalsely : Prop := bottomSameRow.holds Try.pinned (OpenSpec.ofChange bottomSameWrong)

/-- 'cultop.TopTraces': WHATEVER THE INPUT: true; the input reads as it did. -/
def topTracesSpec : ChangeSpec := { name := "topTraces", fn := fun _ => fun
  | [d1, d2] => { results := [.lit (.bool true)], args := [d1, d2] }
  | _ => none }
def topTracesRow : OpenClaim := { program := "ytfocmnjkoominaa", sum := "d05e263bf7580d04eb2bce2db56c57f9952b1dbd47ee37e66ba571d83a93517c", func := "cullender/cultop.TopTraces", spec := "topTraces", apart := false }
def TopTracesSaid : Prop := topTracesRow.holds Try.pinned (OpenSpec.ofChange topTracesSpec)

/-- ITS FALSE NEIGHBOUR: 'it returns false'. Refute it at one input. -/
def topTracesWrong : ChangeSpec := { name := "topTraces", fn := fun _ => fun
  | [d1, d2] => { results := [.lit (.bool false)], args := [d1, d2] }
  | _ => none }
def TopTracesWrongFalsely : Prop := topTracesRow.holds Try.pinned (OpenSpec.ofChange topTracesWrong)

/-- 'cultop.TopPond': WHATEVER THE INPUT: true; the input reads as it did. -/
def topPondSpec : ChangeSpec := { name := "topPond", fn := fun _ => fun
  | [d1, d2] => { results := [.lit (.bool true)], args := [d1, d2] }
  | _ => none }
def topPondRow : OpenClaim := { program := "ytfocmnjkoominaa", sum := "d05e263bf7580d04eb2bce2db56c57f9952b1dbd47ee37e66ba571d83a93517c", func := "cullender/cultop.TopPond", spec := "topPond", unfollowed := true, recurses := true, apart := false }
def TopPondSaid : Prop := topPondRow.holds Try.pinned (OpenSpec.ofChange topPondSpec)

/-- ITS FALSE NEIGHBOUR: 'it returns false'. Refute it at one input. -/
def topPondWrong : ChangeSpec := { name := "topPond", fn := fun _ => fun
  | [d1, d2] => { results := [.lit (.bool false)], args := [d1, d2] }
  | _ => none }
def TopPondWrongFalsely : Prop := topPondRow.holds Try.pinned (OpenSpec.ofChange topPondWrong)

/- THE SECOND FORM. 'bulk': how many values and letters a reading holds, each counted each time it is reached (what is shared counts as often as it is met; a slice's spare places count too). A statement '..UptoSaid' is the law's where the arguments, and the package variables that the reading takes, are together of bulk at most 1048576: NARROWER than '..Said'. Prove '..Said' where nothing that the law and all that it calls make is longer than what came in: it says more and counts as full. Else prove '..UptoSaid'. A law counts once. -/
mutual
def uptoBulk {H : Type} : DataW H → Nat
  | .lit (.string bytes) => bytes.length + 1
  | .lit _ => 1
  | .nil => 1
  | .ptr d => uptoBulk d + 1
  | .slice elems spare => uptoBulkAll elems + uptoBulkAll spare + 1
  | .agg parts => uptoBulkAll parts + 1
  | .iface _ d => uptoBulk d + 1
  | .map entries => uptoBulkEntries entries + 1
  | .held _ => 1
def uptoBulkAll {H : Type} : List (DataW H) → Nat
  | [] => 0
  | d :: r => uptoBulk d + uptoBulkAll r
def uptoBulkEntries {H : Type} : List (Lit × DataW H) → Nat
  | [] => 0
  | x :: r => uptoBulkEntry x + uptoBulkEntries r
def uptoBulkEntry {H : Type} : Lit × DataW H → Nat
  | (.string bytes, d) => bytes.length + uptoBulk d + 1
  | (_, d) => uptoBulk d + 1
 end
def uptoSmall : (H : Type) → List (DataW H) → Bool := fun _ ds => decide (uptoBulkAll ds ≤ 1048576)
def OpenSpec.upto (s : _root_.Go.ChangeSpec) : _root_.Go.OpenSpec := { _root_.Go.OpenSpec.ofChange s with cond := some uptoSmall }

/-- 'cullaw.BottomSays', WHERE WHAT IT READS IS OF BULK AT MOST 1048576: true; the input reads as it did. -/
def bottomSaysUptoRow : OpenClaim := { program := "ytfocmnjkoominaa", sum := "d05e263bf7580d04eb2bce2db56c57f9952b1dbd47ee37e66ba571d83a93517c", func := "cullender/cullaw.BottomSays", spec := "bottomSays", recurses := true, apart := false, narrowed := true }
def BottomSaysUptoSaid : Prop := bottomSaysUptoRow.holds Try.pinned (OpenSpec.upto bottomSaysSpec)

/-- 'culkeep.EstSpreads', WHERE WHAT IT READS IS OF BULK AT MOST 1048576: true; the input reads as it did. -/
def estSpreadsUptoRow : OpenClaim := { program := "ytfocmnjkoominaa", sum := "d05e263bf7580d04eb2bce2db56c57f9952b1dbd47ee37e66ba571d83a93517c", func := "cullender/culkeep.EstSpreads", spec := "estSpreads", unfollowed := true, recurses := true, apart := false, narrowed := true }
def EstSpreadsUptoSaid : Prop := estSpreadsUptoRow.holds Try.pinned (OpenSpec.upto estSpreadsSpec)

/-- 'culkeep.BottomSame', WHERE WHAT IT READS IS OF BULK AT MOST 1048576: true; the input reads as it did. -/
def bottomSameUptoRow : OpenClaim := { program := "ytfocmnjkoominaa", sum := "d05e263bf7580d04eb2bce2db56c57f9952b1dbd47ee37e66ba571d83a93517c", func := "cullender/culkeep.BottomSame", spec := "bottomSame", recurses := true, apart := false, narrowed := true }
def BottomSameUptoSaid : Prop := bottomSameUptoRow.holds Try.pinned (OpenSpec.upto bottomSameSpec)

/-- 'cultop.TopTraces', WHERE WHAT IT READS IS OF BULK AT MOST 1048576: true; the input reads as it did. -/
def topTracesUptoRow : OpenClaim := { program := "ytfocmnjkoominaa", sum := "d05e263bf7580d04eb2bce2db56c57f9952b1dbd47ee37e66ba571d83a93517c", func := "cullender/cultop.TopTraces", spec := "topTraces", apart := false, narrowed := true }
def TopTracesUptoSaid : Prop := topTracesUptoRow.holds Try.pinned (OpenSpec.upto topTracesSpec)

/-- 'cultop.TopPond', WHERE WHAT IT READS IS OF BULK AT MOST 1048576: true; the input reads as it did. -/
def topPondUptoRow : OpenClaim := { program := "ytfocmnjkoominaa", sum := "d05e263bf7580d04eb2bce2db56c57f9952b1dbd47ee37e66ba571d83a93517c", func := "cullender/cultop.TopPond", spec := "topPond", unfollowed := true, recurses := true, apart := false, narrowed := true }
def TopPondUptoSaid : Prop := topPondUptoRow.holds Try.pinned (OpenSpec.upto topPondSpec)

end Rows
end Go.Proofs.Ytfocmnjkoominaa
