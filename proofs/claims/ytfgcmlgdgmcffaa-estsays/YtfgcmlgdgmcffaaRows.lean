/-
  No cell of these rows narrows 'for every input' (looked for: loops, veiled, ifaces, maps, wideKeys, modest, calm, conditions, laid).
  DERIVED. THE GIVEN ROWS OF THIS SEAT. 11 by the template 'for every input the law returns true; each argument reads behind the call as it read before'; 0 by the template 'total and deterministic' (their statements: YtfgcmlgdgmcffaaTotals.lean).
  GIVEN WITH THE SEED: the statements are not yours to turn. If you find one false, say at which input.
  Laid BY PROGRAM, IN A SANDBOX (cutbox-rows.mjs): the forced cells as the released guide's own fill.sh prints them over the translation 5b4f7a64591361ee… (all of the seat's roots in one cut). By AI agents, Wed Nov 11 2026. No macro, syntax, notation, axiom, sorry.
-/
import Derived.Test.YtfgcmlgdgmcffaaChecked
import GoSem.Claim
import GoSem.ClaimJoined
import GoSem.ClaimMapViews
import Derived.JoinedTies
import Derived.KernelRfl
namespace Go.Proofs.Ytfgcmlgdgmcffaa
/- THE CELL 'sum', in the pinned program and in every row, IS THE sha256 OF THE DUMP (.gsa) THAT YtfgcmlgdgmcffaaProg.lean LOADS. Nothing in Lean hashes anything: it is a label: what it is worth is what the hold of that sum in a sandbox is worth. -/
noncomputable def Try.pinned : Pinned := { name := "ytfgcmlgdgmcffaa", sum := "5b4f7a64591361ee5c36c5389e7c34158820cee785fe03f8c6b8233b954e227d", checked := Try.checked }
namespace Rows
def none {H : Type} : Left H := { results := [], args := [] }

/-- 'cullaw.EstSays': WHATEVER THE INPUT: true; the input reads as it did. -/
def estSaysSpec : ChangeSpec := { name := "estSays", fn := fun _ => fun
  | [d1, d2, d3] => { results := [.lit (.bool true)], args := [d1, d2, d3] }
  | _ => none }
def estSaysRow : OpenClaim := { program := "ytfgcmlgdgmcffaa", sum := "5b4f7a64591361ee5c36c5389e7c34158820cee785fe03f8c6b8233b954e227d", func := "cullender/cullaw.EstSays", spec := "estSays", unfollowed := true, recurses := true, apart := false }
def EstSaysSaid : Prop := estSaysRow.holds Try.pinned (OpenSpec.ofChange estSaysSpec)

/-- ITS FALSE NEIGHBOUR: 'it returns false'. Refute it at one input. -/
def estSaysWrong : ChangeSpec := { name := "estSays", fn := fun _ => fun
  | [d1, d2, d3] => { results := [.lit (.bool false)], args := [d1, d2, d3] }
  | _ => none }
def EstSaysWrongFalsely : Prop := estSaysRow.holds Try.pinned (OpenSpec.ofChange estSaysWrong)

/-- 'cullaw.BottomSays': WHATEVER THE INPUT: true; the input reads as it did. -/
def bottomSaysSpec : ChangeSpec := { name := "bottomSays", fn := fun _ => fun
  | [d1, d2, d3] => { results := [.lit (.bool true)], args := [d1, d2, d3] }
  | _ => none }
def bottomSaysRow : OpenClaim := { program := "ytfgcmlgdgmcffaa", sum := "5b4f7a64591361ee5c36c5389e7c34158820cee785fe03f8c6b8233b954e227d", func := "cullender/cullaw.BottomSays", spec := "bottomSays", recurses := true, apart := false }
def BottomSaysSaid : Prop := bottomSaysRow.holds Try.pinned (OpenSpec.ofChange bottomSaysSpec)

/-- ITS FALSE NEIGHBOUR: 'it returns false'. Refute it at one input. -/
def bottomSaysWrong : ChangeSpec := { name := "bottomSays", fn := fun _ => fun
  | [d1, d2, d3] => { results := [.lit (.bool false)], args := [d1, d2, d3] }
  | _ => none }
def BottomSaysWrongFalsely : Prop := bottomSaysRow.holds Try.pinned (OpenSpec.ofChange bottomSaysWrong)

/-- 'culkeep.EstMean': WHATEVER THE INPUT: true; the input reads as it did. -/
def estMeanSpec : ChangeSpec := { name := "estMean", fn := fun _ => fun
  | [d1, d2, d3] => { results := [.lit (.bool true)], args := [d1, d2, d3] }
  | _ => none }
def estMeanRow : OpenClaim := { program := "ytfgcmlgdgmcffaa", sum := "5b4f7a64591361ee5c36c5389e7c34158820cee785fe03f8c6b8233b954e227d", func := "cullender/culkeep.EstMean", spec := "estMean", apart := false }
def EstMeanSaid : Prop := estMeanRow.holds Try.pinned (OpenSpec.ofChange estMeanSpec)

/-- ITS FALSE NEIGHBOUR: 'it returns false'. Refute it at one input. -/
def estMeanWrong : ChangeSpec := { name := "estMean", fn := fun _ => fun
  | [d1, d2, d3] => { results := [.lit (.bool false)], args := [d1, d2, d3] }
  | _ => none }
def EstMeanWrongFalsely : Prop := estMeanRow.holds Try.pinned (OpenSpec.ofChange estMeanWrong)

/-- 'culkeep.EstSpreads': WHATEVER THE INPUT: true; the input reads as it did. -/
def estSpreadsSpec : ChangeSpec := { name := "estSpreads", fn := fun _ => fun
  | [d1, d2] => { results := [.lit (.bool true)], args := [d1, d2] }
  | _ => none }
def estSpreadsRow : OpenClaim := { program := "ytfgcmlgdgmcffaa", sum := "5b4f7a64591361ee5c36c5389e7c34158820cee785fe03f8c6b8233b954e227d", func := "cullender/culkeep.EstSpreads", spec := "estSpreads", unfollowed := true, recurses := true, apart := false }
def EstSpreadsSaid : Prop := estSpreadsRow.holds Try.pinned (OpenSpec.ofChange estSpreadsSpec)

/-- ITS FALSE NEIGHBOUR: 'it returns false'. Refute it at one input. -/
def estSpreadsWrong : ChangeSpec := { name := "estSpreads", fn := fun _ => fun
  | [d1, d2] => { results := [.lit (.bool false)], args := [d1, d2] }
  | _ => none }
def EstSpreadsWrongFalsely : Prop := estSpreadsRow.holds Try.pinned (OpenSpec.ofChange estSpreadsWrong)

/-- 'culkeep.EstAdds': WHATEVER THE INPUT: true; the input reads as it did. -/
def estAddsSpec : ChangeSpec := { name := "estAdds", fn := fun _ => fun
  | [d1, d2, d3, d4] => { results := [.lit (.bool true)], args := [d1, d2, d3, d4] }
  | _ => none }
def estAddsRow : OpenClaim := { program := "ytfgcmlgdgmcffaa", sum := "5b4f7a64591361ee5c36c5389e7c34158820cee785fe03f8c6b8233b954e227d", func := "cullender/culkeep.EstAdds", spec := "estAdds", apart := false }
def EstAddsSaid : Prop := estAddsRow.holds Try.pinned (OpenSpec.ofChange estAddsSpec)

/-- ITS FALSE NEIGHBOUR: 'it returns false'. Refute it at one input. -/
def estAddsWrong : ChangeSpec := { name := "estAdds", fn := fun _ => fun
  | [d1, d2, d3, d4] => { results := [.lit (.bool false)], args := [d1, d2, d3, d4] }
  | _ => none }
def EstAddsWrongFalsely : Prop := estAddsRow.holds Try.pinned (OpenSpec.ofChange estAddsWrong)

/-- 'culkeep.BottomSame': WHATEVER THE INPUT: true; the input reads as it did. -/
def bottomSameSpec : ChangeSpec := { name := "bottomSame", fn := fun _ => fun
  | [d1, d2, d3, d4] => { results := [.lit (.bool true)], args := [d1, d2, d3, d4] }
  | _ => none }
def bottomSameRow : OpenClaim := { program := "ytfgcmlgdgmcffaa", sum := "5b4f7a64591361ee5c36c5389e7c34158820cee785fe03f8c6b8233b954e227d", func := "cullender/culkeep.BottomSame", spec := "bottomSame", recurses := true, apart := false }
def BottomSameSaid : Prop := bottomSameRow.holds Try.pinned (OpenSpec.ofChange bottomSameSpec)

/-- ITS FALSE NEIGHBOUR: 'it returns false'. Refute it at one input. -/
def bottomSameWrong : ChangeSpec := { name := "bottomSame", fn := fun _ => fun
  | [d1, d2, d3, d4] => { results := [.lit (.bool false)], args := [d1, d2, d3, d4] }
  | _ => none }
def BottomSameWrongFalsely : Prop := bottomSameRow.holds Try.pinned (OpenSpec.ofChange bottomSameWrong)

/-- 'culkeep.BottomMany': WHATEVER THE INPUT: true; the input reads as it did. -/
def bottomManySpec : ChangeSpec := { name := "bottomMany", fn := fun _ => fun
  | [d1, d2] => { results := [.lit (.bool true)], args := [d1, d2] }
  | _ => none }
def bottomManyRow : OpenClaim := { program := "ytfgcmlgdgmcffaa", sum := "5b4f7a64591361ee5c36c5389e7c34158820cee785fe03f8c6b8233b954e227d", func := "cullender/culkeep.BottomMany", spec := "bottomMany", recurses := true, apart := false }
def BottomManySaid : Prop := bottomManyRow.holds Try.pinned (OpenSpec.ofChange bottomManySpec)

/-- ITS FALSE NEIGHBOUR: 'it returns false'. Refute it at one input. -/
def bottomManyWrong : ChangeSpec := { name := "bottomMany", fn := fun _ => fun
  | [d1, d2] => { results := [.lit (.bool false)], args := [d1, d2] }
  | _ => none }
def BottomManyWrongFalsely : Prop := bottomManyRow.holds Try.pinned (OpenSpec.ofChange bottomManyWrong)

/-- 'culkeep.EstAll': WHATEVER THE INPUT: true; the input reads as it did. -/
def estAllSpec : ChangeSpec := { name := "estAll", fn := fun _ => fun
  | [d1, d2] => { results := [.lit (.bool true)], args := [d1, d2] }
  | _ => none }
def estAllRow : OpenClaim := { program := "ytfgcmlgdgmcffaa", sum := "5b4f7a64591361ee5c36c5389e7c34158820cee785fe03f8c6b8233b954e227d", func := "cullender/culkeep.EstAll", spec := "estAll", apart := false }
def EstAllSaid : Prop := estAllRow.holds Try.pinned (OpenSpec.ofChange estAllSpec)

/-- ITS FALSE NEIGHBOUR: 'it returns false'. Refute it at one input. -/
def estAllWrong : ChangeSpec := { name := "estAll", fn := fun _ => fun
  | [d1, d2] => { results := [.lit (.bool false)], args := [d1, d2] }
  | _ => none }
def EstAllWrongFalsely : Prop := estAllRow.holds Try.pinned (OpenSpec.ofChange estAllWrong)

/-- 'culkeep.EstWider': WHATEVER THE INPUT: true; the input reads as it did. -/
def estWiderSpec : ChangeSpec := { name := "estWider", fn := fun _ => fun
  | [d1, d2, d3, d4] => { results := [.lit (.bool true)], args := [d1, d2, d3, d4] }
  | _ => none }
def estWiderRow : OpenClaim := { program := "ytfgcmlgdgmcffaa", sum := "5b4f7a64591361ee5c36c5389e7c34158820cee785fe03f8c6b8233b954e227d", func := "cullender/culkeep.EstWider", spec := "estWider", apart := false }
def EstWiderSaid : Prop := estWiderRow.holds Try.pinned (OpenSpec.ofChange estWiderSpec)

/-- ITS FALSE NEIGHBOUR: 'it returns false'. Refute it at one input. -/
def estWiderWrong : ChangeSpec := { name := "estWider", fn := fun _ => fun
  | [d1, d2, d3, d4] => { results := [.lit (.bool false)], args := [d1, d2, d3, d4] }
  | _ => none }
def EstWiderWrongFalsely : Prop := estWiderRow.holds Try.pinned (OpenSpec.ofChange estWiderWrong)

/-- 'culkeep.BottomLess': WHATEVER THE INPUT: true; the input reads as it did. -/
def bottomLessSpec : ChangeSpec := { name := "bottomLess", fn := fun _ => fun
  | [d1, d2, d3, d4] => { results := [.lit (.bool true)], args := [d1, d2, d3, d4] }
  | _ => none }
def bottomLessRow : OpenClaim := { program := "ytfgcmlgdgmcffaa", sum := "5b4f7a64591361ee5c36c5389e7c34158820cee785fe03f8c6b8233b954e227d", func := "cullender/culkeep.BottomLess", spec := "bottomLess", recurses := true, apart := false }
def BottomLessSaid : Prop := bottomLessRow.holds Try.pinned (OpenSpec.ofChange bottomLessSpec)

/-- ITS FALSE NEIGHBOUR: 'it returns false'. Refute it at one input. -/
def bottomLessWrong : ChangeSpec := { name := "bottomLess", fn := fun _ => fun
  | [d1, d2, d3, d4] => { results := [.lit (.bool false)], args := [d1, d2, d3, d4] }
  | _ => none }
def BottomLessWrongFalsely : Prop := bottomLessRow.holds Try.pinned (OpenSpec.ofChange bottomLessWrong)

/-- 'cultop.TopTraces': WHATEVER THE INPUT: true; the input reads as it did. -/
def topTracesSpec : ChangeSpec := { name := "topTraces", fn := fun _ => fun
  | [d1, d2] => { results := [.lit (.bool true)], args := [d1, d2] }
  | _ => none }
def topTracesRow : OpenClaim := { program := "ytfgcmlgdgmcffaa", sum := "5b4f7a64591361ee5c36c5389e7c34158820cee785fe03f8c6b8233b954e227d", func := "cullender/cultop.TopTraces", spec := "topTraces", apart := false }
def TopTracesSaid : Prop := topTracesRow.holds Try.pinned (OpenSpec.ofChange topTracesSpec)

/-- ITS FALSE NEIGHBOUR: 'it returns false'. Refute it at one input. -/
def topTracesWrong : ChangeSpec := { name := "topTraces", fn := fun _ => fun
  | [d1, d2] => { results := [.lit (.bool false)], args := [d1, d2] }
  | _ => none }
def TopTracesWrongFalsely : Prop := topTracesRow.holds Try.pinned (OpenSpec.ofChange topTracesWrong)

/- THE SECOND FORM. 'bulk': how many values and letters a reading holds, each counted each time it is reached (what is shared counts as often as it is met; a slice's spare places count too). A statement '..UptoSaid' is the law's where the arguments, and the package variables that the reading takes, are together of bulk at most 1048576: NARROWER than '..Said'. Prove '..Said' where nothing that the law and all that it calls make is longer than what came in: it says more and counts as full. Else prove '..UptoSaid'. A law counts once. -/
mutual
def uptoBulk {H : Type} : DataW H → Nat
  | .lit (.string bytes) => bytes.length + 1
  | .lit _ => 1
  | .nil => 1
  | .ptr d => uptoBulk d + 1
  | .slice elems spare => uptoBulkAll elems + uptoBulkAll spare + 1
  | .agg parts => uptoBulkAll parts + 1
  | .iface _ d => uptoBulk d + 1
  | .map entries => uptoBulkEntries entries + 1
  | .held _ => 1
def uptoBulkAll {H : Type} : List (DataW H) → Nat
  | [] => 0
  | d :: r => uptoBulk d + uptoBulkAll r
def uptoBulkEntries {H : Type} : List (Lit × DataW H) → Nat
  | [] => 0
  | x :: r => uptoBulkEntry x + uptoBulkEntries r
def uptoBulkEntry {H : Type} : Lit × DataW H → Nat
  | (.string bytes, d) => bytes.length + uptoBulk d + 1
  | (_, d) => uptoBulk d + 1
 end
def uptoSmall : (H : Type) → List (DataW H) → Bool := fun _ ds => decide (uptoBulkAll ds ≤ 1048576)
def OpenSpec.upto (s : _root_.Go.ChangeSpec) : _root_.Go.OpenSpec := { _root_.Go.OpenSpec.ofChange s with cond := some uptoSmall }

/-- 'cullaw.EstSays', WHERE WHAT IT READS IS OF BULK AT MOST 1048576: true; the input reads as it did. -/
def estSaysUptoRow : OpenClaim := { program := "ytfgcmlgdgmcffaa", sum := "5b4f7a64591361ee5c36c5389e7c34158820cee785fe03f8c6b8233b954e227d", func := "cullender/cullaw.EstSays", spec := "estSays", unfollowed := true, recurses := true, apart := false, narrowed := true }
def EstSaysUptoSaid : Prop := estSaysUptoRow.holds Try.pinned (OpenSpec.upto estSaysSpec)

/-- 'cullaw.BottomSays', WHERE WHAT IT READS IS OF BULK AT MOST 1048576: true; the input reads as it did. -/
def bottomSaysUptoRow : OpenClaim := { program := "ytfgcmlgdgmcffaa", sum := "5b4f7a64591361ee5c36c5389e7c34158820cee785fe03f8c6b8233b954e227d", func := "cullender/cullaw.BottomSays", spec := "bottomSays", recurses := true, apart := false, narrowed := true }
def BottomSaysUptoSaid : Prop := bottomSaysUptoRow.holds Try.pinned (OpenSpec.upto bottomSaysSpec)

/-- 'culkeep.EstMean', WHERE WHAT IT READS IS OF BULK AT MOST 1048576: true; the input reads as it did. -/
def estMeanUptoRow : OpenClaim := { program := "ytfgcmlgdgmcffaa", sum := "5b4f7a64591361ee5c36c5389e7c34158820cee785fe03f8c6b8233b954e227d", func := "cullender/culkeep.EstMean", spec := "estMean", apart := false, narrowed := true }
def EstMeanUptoSaid : Prop := estMeanUptoRow.holds Try.pinned (OpenSpec.upto estMeanSpec)

/-- 'culkeep.EstSpreads', WHERE WHAT IT READS IS OF BULK AT MOST 1048576: true; the input reads as it did. -/
def estSpreadsUptoRow : OpenClaim := { program := "ytfgcmlgdgmcffaa", sum := "5b4f7a64591361ee5c36c5389e7c34158820cee785fe03f8c6b8233b954e227d", func := "cullender/culkeep.EstSpreads", spec := "estSpreads", unfollowed := true, recurses := true, apart := false, narrowed := true }
def EstSpreadsUptoSaid : Prop := estSpreadsUptoRow.holds Try.pinned (OpenSpec.upto estSpreadsSpec)

/-- 'culkeep.EstAdds', WHERE WHAT IT READS IS OF BULK AT MOST 1048576: true; the input reads as it did. -/
def estAddsUptoRow : OpenClaim := { program := "ytfgcmlgdgmcffaa", sum := "5b4f7a64591361ee5c36c5389e7c34158820cee785fe03f8c6b8233b954e227d", func := "cullender/culkeep.EstAdds", spec := "estAdds", apart := false, narrowed := true }
def EstAddsUptoSaid : Prop := estAddsUptoRow.holds Try.pinned (OpenSpec.upto estAddsSpec)

/-- 'culkeep.BottomSame', WHERE WHAT IT READS IS OF BULK AT MOST 1048576: true; the input reads as it did. -/
def bottomSameUptoRow : OpenClaim := { program := "ytfgcmlgdgmcffaa", sum := "5b4f7a64591361ee5c36c5389e7c34158820cee785fe03f8c6b8233b954e227d", func := "cullender/culkeep.BottomSame", spec := "bottomSame", recurses := true, apart := false, narrowed := true }
def BottomSameUptoSaid : Prop := bottomSameUptoRow.holds Try.pinned (OpenSpec.upto bottomSameSpec)

/-- 'culkeep.BottomMany', WHERE WHAT IT READS IS OF BULK AT MOST 1048576: true; the input reads as it did. -/
def bottomManyUptoRow : OpenClaim := { program := "ytfgcmlgdgmcffaa", sum := "5b4f7a64591361ee5c36c5389e7c34158820cee785fe03f8c6b8233b954e227d", func := "cullender/culkeep.BottomMany", spec := "bottomMany", recurses := true, apart := false, narrowed := true }
def BottomManyUptoSaid : Prop := bottomManyUptoRow.holds Try.pinned (OpenSpec.upto bottomManySpec)

/-- 'culkeep.EstAll', WHERE WHAT IT READS IS OF BULK AT MOST 1048576: true; the input reads as it did. -/
def estAllUptoRow : OpenClaim := { program := "ytfgcmlgdgmcffaa", sum := "5b4f7a64591361ee5c36c5389e7c34158820cee785fe03f8c6b8233b954e227d", func := "cullender/culkeep.EstAll", spec := "estAll", apart := false, narrowed := true }
def EstAllUptoSaid : Prop := estAllUptoRow.holds Try.pinned (OpenSpec.upto estAllSpec)

/-- 'culkeep.EstWider', WHERE WHAT IT READS IS OF BULK AT MOST 1048576: true; the input reads as it did. -/
def estWiderUptoRow : OpenClaim := { program := "ytfgcmlgdgmcffaa", sum := "5b4f7a64591361ee5c36c5389e7c34158820cee785fe03f8c6b8233b954e227d", func := "cullender/culkeep.EstWider", spec := "estWider", apart := false, narrowed := true }
def EstWiderUptoSaid : Prop := estWiderUptoRow.holds Try.pinned (OpenSpec.upto estWiderSpec)

/-- 'culkeep.BottomLess', WHERE WHAT IT READS IS OF BULK AT MOST 1048576: true; the input reads as it did. -/
def bottomLessUptoRow : OpenClaim := { program := "ytfgcmlgdgmcffaa", sum := "5b4f7a64591361ee5c36c5389e7c34158820cee785fe03f8c6b8233b954e227d", func := "cullender/culkeep.BottomLess", spec := "bottomLess", recurses := true, apart := false, narrowed := true }
def BottomLessUptoSaid : Prop := bottomLessUptoRow.holds Try.pinned (OpenSpec.upto bottomLessSpec)

/-- 'cultop.TopTraces', WHERE WHAT IT READS IS OF BULK AT MOST 1048576: true; the input reads as it did. -/
def topTracesUptoRow : OpenClaim := { program := "ytfgcmlgdgmcffaa", sum := "5b4f7a64591361ee5c36c5389e7c34158820cee785fe03f8c6b8233b954e227d", func := "cullender/cultop.TopTraces", spec := "topTraces", apart := false, narrowed := true }
def TopTracesUptoSaid : Prop := topTracesUptoRow.holds Try.pinned (OpenSpec.upto topTracesSpec)

end Rows
end Go.Proofs.Ytfgcmlgdgmcffaa
