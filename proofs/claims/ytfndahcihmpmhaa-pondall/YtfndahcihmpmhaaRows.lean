/-
  No cell of these rows narrows 'for every input' (looked for: loops, veiled, ifaces, maps, wideKeys, modest, calm, conditions, laid).
  DERIVED. THE GIVEN ROWS OF THIS SEAT. 10 by the template 'for every input the law returns true; each argument reads behind the call as it read before'; 0 by the template 'total and deterministic' (their statements: YtfndahcihmpmhaaTotals.lean).
  GIVEN WITH THE SEED: the statements are not yours to turn. If you find one false, say at which input.
  Laid BY PROGRAM, IN A SANDBOX (cutbox-rows.mjs): the forced cells as the released guide's own fill.sh prints them over the translation 5c5885caddf09690… (all of the seat's roots in one cut). By AI agents, Wed Nov 11 2026. No macro, syntax, notation, axiom, sorry.
-/
import Derived.Test.YtfndahcihmpmhaaChecked
import GoSem.Claim
import GoSem.ClaimJoined
import GoSem.ClaimMapViews
import Derived.JoinedTies
import Derived.KernelRfl
namespace Go.Proofs.Ytfndahcihmpmhaa
/- THE CELL 'sum', in the pinned program and in every row, IS THE sha256 OF THE DUMP (.gsa) THAT YtfndahcihmpmhaaProg.lean LOADS. Nothing in Lean hashes anything: it is a label: what it is worth is what the hold of that sum in a sandbox is worth. -/
noncomputable def Try.pinned : Pinned := { name := "ytfndahcihmpmhaa", sum := "5c5885caddf09690605f23f7f780749d183459d787abb5ac29db2e09418515a4", checked := Try.checked }
namespace Rows
def none {H : Type} : Left H := { results := [], args := [] }

/-- 'cullaw.PondSays': WHATEVER THE INPUT: true; the input reads as it did. -/
def pondSaysSpec : ChangeSpec := { name := "pondSays", fn := fun _ => fun
  | [d1, d2, d3] => { results := [.lit (.bool true)], args := [d1, d2, d3] }
  | _ => none }
def pondSaysRow : OpenClaim := { program := "ytfndahcihmpmhaa", sum := "5c5885caddf09690605f23f7f780749d183459d787abb5ac29db2e09418515a4", func := "cullender/cullaw.PondSays", spec := "pondSays", apart := false }
def PondSaysSaid : Prop := pondSaysRow.holds Try.pinned (OpenSpec.ofChange pondSaysSpec)

/-- ITS FALSE NEIGHBOUR: 'it returns false'. Refute it at one input. -/
def pondSaysWrong : ChangeSpec := { name := "pondSays", fn := fun _ => fun
  | [d1, d2, d3] => { results := [.lit (.bool false)], args := [d1, d2, d3] }
  | _ => none }
def PondSaysWrongFalsely : Prop := pondSaysRow.holds Try.pinned (OpenSpec.ofChange pondSaysWrong)

/-- 'cullaw.AliasSays': WHATEVER THE INPUT: true; the input reads as it did. -/
def aliasSaysSpec : ChangeSpec := { name := "aliasSays", fn := fun _ => fun
  | [d] => { results := [.lit (.bool true)], args := [d] }
  | _ => none }
def aliasSaysRow : OpenClaim := { program := "ytfndahcihmpmhaa", sum := "5c5885caddf09690605f23f7f780749d183459d787abb5ac29db2e09418515a4", func := "cullender/cullaw.AliasSays", spec := "aliasSays", unfollowed := true, recurses := true, apart := false }
def AliasSaysSaid : Prop := aliasSaysRow.holds Try.pinned (OpenSpec.ofChange aliasSaysSpec)

/-- ITS FALSE NEIGHBOUR: 'it returns false'. Refute it at one input. -/
def aliasSaysWrong : ChangeSpec := { name := "aliasSays", fn := fun _ => fun
  | [d] => { results := [.lit (.bool false)], args := [d] }
  | _ => none }
def AliasSaysWrongFalsely : Prop := aliasSaysRow.holds Try.pinned (OpenSpec.ofChange aliasSaysWrong)

/-- 'cullaw.AliasTells': WHATEVER THE INPUT: true; the input reads as it did. -/
def aliasTellsSpec : ChangeSpec := { name := "aliasTells", fn := fun _ => fun
  | [d1, d2, d3] => { results := [.lit (.bool true)], args := [d1, d2, d3] }
  | _ => none }
def aliasTellsRow : OpenClaim := { program := "ytfndahcihmpmhaa", sum := "5c5885caddf09690605f23f7f780749d183459d787abb5ac29db2e09418515a4", func := "cullender/cullaw.AliasTells", spec := "aliasTells", apart := false }
def AliasTellsSaid : Prop := aliasTellsRow.holds Try.pinned (OpenSpec.ofChange aliasTellsSpec)

/-- ITS FALSE NEIGHBOUR: 'it returns false'. Refute it at one input. -/
def aliasTellsWrong : ChangeSpec := { name := "aliasTells", fn := fun _ => fun
  | [d1, d2, d3] => { results := [.lit (.bool false)], args := [d1, d2, d3] }
  | _ => none }
def AliasTellsWrongFalsely : Prop := aliasTellsRow.holds Try.pinned (OpenSpec.ofChange aliasTellsWrong)

/-- 'culkeep.PondKeeps': WHATEVER THE INPUT: true; the input reads as it did. -/
def pondKeepsSpec : ChangeSpec := { name := "pondKeeps", fn := fun _ => fun
  | [d1, d2, d3] => { results := [.lit (.bool true)], args := [d1, d2, d3] }
  | _ => none }
def pondKeepsRow : OpenClaim := { program := "ytfndahcihmpmhaa", sum := "5c5885caddf09690605f23f7f780749d183459d787abb5ac29db2e09418515a4", func := "cullender/culkeep.PondKeeps", spec := "pondKeeps", apart := false }
def PondKeepsSaid : Prop := pondKeepsRow.holds Try.pinned (OpenSpec.ofChange pondKeepsSpec)

/-- ITS FALSE NEIGHBOUR: 'it returns false'. Refute it at one input. -/
def pondKeepsWrong : ChangeSpec := { name := "pondKeeps", fn := fun _ => fun
  | [d1, d2, d3] => { results := [.lit (.bool false)], args := [d1, d2, d3] }
  | _ => none }
def PondKeepsWrongFalsely : Prop := pondKeepsRow.holds Try.pinned (OpenSpec.ofChange pondKeepsWrong)

/-- 'culkeep.PondAll': WHATEVER THE INPUT: true; the input reads as it did. -/
def pondAllSpec : ChangeSpec := { name := "pondAll", fn := fun _ => fun
  | [d1, d2] => { results := [.lit (.bool true)], args := [d1, d2] }
  | _ => none }
def pondAllRow : OpenClaim := { program := "ytfndahcihmpmhaa", sum := "5c5885caddf09690605f23f7f780749d183459d787abb5ac29db2e09418515a4", func := "cullender/culkeep.PondAll", spec := "pondAll", unfollowed := true, recurses := true, apart := false }
def PondAllSaid : Prop := pondAllRow.holds Try.pinned (OpenSpec.ofChange pondAllSpec)

/-- ITS FALSE NEIGHBOUR: 'it returns false'. Refute it at one input. -/
def pondAllWrong : ChangeSpec := { name := "pondAll", fn := fun _ => fun
  | [d1, d2] => { results := [.lit (.bool false)], args := [d1, d2] }
  | _ => none }
def PondAllWrongFalsely : Prop := pondAllRow.holds Try.pinned (OpenSpec.ofChange pondAllWrong)

/-- 'culkeep.AliasShares': WHATEVER THE INPUT: true; the input reads as it did. -/
def aliasSharesSpec : ChangeSpec := { name := "aliasShares", fn := fun _ => fun
  | [d] => { results := [.lit (.bool true)], args := [d] }
  | _ => none }
def aliasSharesRow : OpenClaim := { program := "ytfndahcihmpmhaa", sum := "5c5885caddf09690605f23f7f780749d183459d787abb5ac29db2e09418515a4", func := "cullender/culkeep.AliasShares", spec := "aliasShares", apart := false }
def AliasSharesSaid : Prop := aliasSharesRow.holds Try.pinned (OpenSpec.ofChange aliasSharesSpec)

/-- ITS FALSE NEIGHBOUR: 'it returns false'. Refute it at one input. -/
def aliasSharesWrong : ChangeSpec := { name := "aliasShares", fn := fun _ => fun
  | [d] => { results := [.lit (.bool false)], args := [d] }
  | _ => none }
def AliasSharesWrongFalsely : Prop := aliasSharesRow.holds Try.pinned (OpenSpec.ofChange aliasSharesWrong)

/-- 'culkeep.AliasPicks': WHATEVER THE INPUT: true; the input reads as it did. -/
def aliasPicksSpec : ChangeSpec := { name := "aliasPicks", fn := fun _ => fun
  | [d] => { results := [.lit (.bool true)], args := [d] }
  | _ => none }
def aliasPicksRow : OpenClaim := { program := "ytfndahcihmpmhaa", sum := "5c5885caddf09690605f23f7f780749d183459d787abb5ac29db2e09418515a4", func := "cullender/culkeep.AliasPicks", spec := "aliasPicks", apart := false }
def AliasPicksSaid : Prop := aliasPicksRow.holds Try.pinned (OpenSpec.ofChange aliasPicksSpec)

/-- ITS FALSE NEIGHBOUR: 'it returns false'. Refute it at one input. -/
def aliasPicksWrong : ChangeSpec := { name := "aliasPicks", fn := fun _ => fun
  | [d] => { results := [.lit (.bool false)], args := [d] }
  | _ => none }
def AliasPicksWrongFalsely : Prop := aliasPicksRow.holds Try.pinned (OpenSpec.ofChange aliasPicksWrong)

/-- 'culkeep.PondLate': WHATEVER THE INPUT: true; the input reads as it did. -/
def pondLateSpec : ChangeSpec := { name := "pondLate", fn := fun _ => fun
  | [d1, d2, d3] => { results := [.lit (.bool true)], args := [d1, d2, d3] }
  | _ => none }
def pondLateRow : OpenClaim := { program := "ytfndahcihmpmhaa", sum := "5c5885caddf09690605f23f7f780749d183459d787abb5ac29db2e09418515a4", func := "cullender/culkeep.PondLate", spec := "pondLate", apart := false }
def PondLateSaid : Prop := pondLateRow.holds Try.pinned (OpenSpec.ofChange pondLateSpec)

/-- ITS FALSE NEIGHBOUR: 'it returns false'. Refute it at one input. -/
def pondLateWrong : ChangeSpec := { name := "pondLate", fn := fun _ => fun
  | [d1, d2, d3] => { results := [.lit (.bool false)], args := [d1, d2, d3] }
  | _ => none }
def PondLateWrongFalsely : Prop := pondLateRow.holds Try.pinned (OpenSpec.ofChange pondLateWrong)

/-- 'culkeep.AliasFull': WHATEVER THE INPUT: true; the input reads as it did. -/
def aliasFullSpec : ChangeSpec := { name := "aliasFull", fn := fun _ => fun
  | [d] => { results := [.lit (.bool true)], args := [d] }
  | _ => none }
def aliasFullRow : OpenClaim := { program := "ytfndahcihmpmhaa", sum := "5c5885caddf09690605f23f7f780749d183459d787abb5ac29db2e09418515a4", func := "cullender/culkeep.AliasFull", spec := "aliasFull", apart := false }
def AliasFullSaid : Prop := aliasFullRow.holds Try.pinned (OpenSpec.ofChange aliasFullSpec)

/-- ITS FALSE NEIGHBOUR: 'it returns false'. Refute it at one input. -/
def aliasFullWrong : ChangeSpec := { name := "aliasFull", fn := fun _ => fun
  | [d] => { results := [.lit (.bool false)], args := [d] }
  | _ => none }
def AliasFullWrongFalsely : Prop := aliasFullRow.holds Try.pinned (OpenSpec.ofChange aliasFullWrong)

/-- 'cultop.TopPond': WHATEVER THE INPUT: true; the input reads as it did. -/
def topPondSpec : ChangeSpec := { name := "topPond", fn := fun _ => fun
  | [d1, d2] => { results := [.lit (.bool true)], args := [d1, d2] }
  | _ => none }
def topPondRow : OpenClaim := { program := "ytfndahcihmpmhaa", sum := "5c5885caddf09690605f23f7f780749d183459d787abb5ac29db2e09418515a4", func := "cullender/cultop.TopPond", spec := "topPond", unfollowed := true, recurses := true, apart := false }
def TopPondSaid : Prop := topPondRow.holds Try.pinned (OpenSpec.ofChange topPondSpec)

/-- ITS FALSE NEIGHBOUR: 'it returns false'. Refute it at one input. -/
def topPondWrong : ChangeSpec := { name := "topPond", fn := fun _ => fun
  | [d1, d2] => { results := [.lit (.bool false)], args := [d1, d2] }
  | _ => none }
def TopPondWrongFalsely : Prop := topPondRow.holds Try.pinned (OpenSpec.ofChange topPondWrong)

/- THE SECOND FORM. 'bulk': how many values and letters a reading holds, each counted each time it is reached (what is shared counts as often as it is met; a slice's spare places count too). A statement '..UptoSaid' is the law's where the arguments, and the package variables that the reading takes, are together of bulk at most 1048576: NARROWER than '..Said'. Prove '..Said' where nothing that the law and all that it calls make is longer than what came in: it says more and counts as full. Else prove '..UptoSaid'. A law counts once. -/
mutual
def uptoBulk {H : Type} : DataW H → Nat
  | .lit (.string bytes) => bytes.length + 1
  | .lit _ => 1
  | .nil => 1
  | .ptr d => uptoBulk d + 1
  | .slice elems spare => uptoBulkAll elems + uptoBulkAll spare + 1
  | .agg parts => uptoBulkAll parts + 1
  | .iface _ d => uptoBulk d + 1
  | .map entries => uptoBulkEntries entries + 1
  | .held _ => 1
def uptoBulkAll {H : Type} : List (DataW H) → Nat
  | [] => 0
  | d :: r => uptoBulk d + uptoBulkAll r
def uptoBulkEntries {H : Type} : List (Lit × DataW H) → Nat
  | [] => 0
  | x :: r => uptoBulkEntry x + uptoBulkEntries r
def uptoBulkEntry {H : Type} : Lit × DataW H → Nat
  | (.string bytes, d) => bytes.length + uptoBulk d + 1
  | (_, d) => uptoBulk d + 1
 end
def uptoSmall : (H : Type) → List (DataW H) → Bool := fun _ ds => decide (uptoBulkAll ds ≤ 1048576)
def OpenSpec.upto (s : _root_.Go.ChangeSpec) : _root_.Go.OpenSpec := { _root_.Go.OpenSpec.ofChange s with cond := some uptoSmall }

/-- 'cullaw.PondSays', WHERE WHAT IT READS IS OF BULK AT MOST 1048576: true; the input reads as it did. -/
def pondSaysUptoRow : OpenClaim := { program := "ytfndahcihmpmhaa", sum := "5c5885caddf09690605f23f7f780749d183459d787abb5ac29db2e09418515a4", func := "cullender/cullaw.PondSays", spec := "pondSays", apart := false, narrowed := true }
def PondSaysUptoSaid : Prop := pondSaysUptoRow.holds Try.pinned (OpenSpec.upto pondSaysSpec)

/-- 'cullaw.AliasSays', WHERE WHAT IT READS IS OF BULK AT MOST 1048576: true; the input reads as it did. -/
def aliasSaysUptoRow : OpenClaim := { program := "ytfndahcihmpmhaa", sum := "5c5885caddf09690605f23f7f780749d183459d787abb5ac29db2e09418515a4", func := "cullender/cullaw.AliasSays", spec := "aliasSays", unfollowed := true, recurses := true, apart := false, narrowed := true }
def AliasSaysUptoSaid : Prop := aliasSaysUptoRow.holds Try.pinned (OpenSpec.upto aliasSaysSpec)

/-- 'cullaw.AliasTells', WHERE WHAT IT READS IS OF BULK AT MOST 1048576: true; the input reads as it did. -/
def aliasTellsUptoRow : OpenClaim := { program := "ytfndahcihmpmhaa", sum := "5c5885caddf09690605f23f7f780749d183459d787abb5ac29db2e09418515a4", func := "cullender/cullaw.AliasTells", spec := "aliasTells", apart := false, narrowed := true }
def AliasTellsUptoSaid : Prop := aliasTellsUptoRow.holds Try.pinned (OpenSpec.upto aliasTellsSpec)

/-- 'culkeep.PondKeeps', WHERE WHAT IT READS IS OF BULK AT MOST 1048576: true; the input reads as it did. -/
def pondKeepsUptoRow : OpenClaim := { program := "ytfndahcihmpmhaa", sum := "5c5885caddf09690605f23f7f780749d183459d787abb5ac29db2e09418515a4", func := "cullender/culkeep.PondKeeps", spec := "pondKeeps", apart := false, narrowed := true }
def PondKeepsUptoSaid : Prop := pondKeepsUptoRow.holds Try.pinned (OpenSpec.upto pondKeepsSpec)

/-- 'culkeep.PondAll', WHERE WHAT IT READS IS OF BULK AT MOST 1048576: true; the input reads as it did. -/
def pondAllUptoRow : OpenClaim := { program := "ytfndahcihmpmhaa", sum := "5c5885caddf09690605f23f7f780749d183459d787abb5ac29db2e09418515a4", func := "cullender/culkeep.PondAll", spec := "pondAll", unfollowed := true, recurses := true, apart := false, narrowed := true }
def PondAllUptoSaid : Prop := pondAllUptoRow.holds Try.pinned (OpenSpec.upto pondAllSpec)

/-- 'culkeep.AliasShares', WHERE WHAT IT READS IS OF BULK AT MOST 1048576: true; the input reads as it did. -/
def aliasSharesUptoRow : OpenClaim := { program := "ytfndahcihmpmhaa", sum := "5c5885caddf09690605f23f7f780749d183459d787abb5ac29db2e09418515a4", func := "cullender/culkeep.AliasShares", spec := "aliasShares", apart := false, narrowed := true }
def AliasSharesUptoSaid : Prop := aliasSharesUptoRow.holds Try.pinned (OpenSpec.upto aliasSharesSpec)

/-- 'culkeep.AliasPicks', WHERE WHAT IT READS IS OF BULK AT MOST 1048576: true; the input reads as it did. -/
def aliasPicksUptoRow : OpenClaim := { program := "ytfndahcihmpmhaa", sum := "5c5885caddf09690605f23f7f780749d183459d787abb5ac29db2e09418515a4", func := "cullender/culkeep.AliasPicks", spec := "aliasPicks", apart := false, narrowed := true }
def AliasPicksUptoSaid : Prop := aliasPicksUptoRow.holds Try.pinned (OpenSpec.upto aliasPicksSpec)

/-- 'culkeep.PondLate', WHERE WHAT IT READS IS OF BULK AT MOST 1048576: true; the input reads as it did. -/
def pondLateUptoRow : OpenClaim := { program := "ytfndahcihmpmhaa", sum := "5c5885caddf09690605f23f7f780749d183459d787abb5ac29db2e09418515a4", func := "cullender/culkeep.PondLate", spec := "pondLate", apart := false, narrowed := true }
def PondLateUptoSaid : Prop := pondLateUptoRow.holds Try.pinned (OpenSpec.upto pondLateSpec)

/-- 'culkeep.AliasFull', WHERE WHAT IT READS IS OF BULK AT MOST 1048576: true; the input reads as it did. -/
def aliasFullUptoRow : OpenClaim := { program := "ytfndahcihmpmhaa", sum := "5c5885caddf09690605f23f7f780749d183459d787abb5ac29db2e09418515a4", func := "cullender/culkeep.AliasFull", spec := "aliasFull", apart := false, narrowed := true }
def AliasFullUptoSaid : Prop := aliasFullUptoRow.holds Try.pinned (OpenSpec.upto aliasFullSpec)

/-- 'cultop.TopPond', WHERE WHAT IT READS IS OF BULK AT MOST 1048576: true; the input reads as it did. -/
def topPondUptoRow : OpenClaim := { program := "ytfndahcihmpmhaa", sum := "5c5885caddf09690605f23f7f780749d183459d787abb5ac29db2e09418515a4", func := "cullender/cultop.TopPond", spec := "topPond", unfollowed := true, recurses := true, apart := false, narrowed := true }
def TopPondUptoSaid : Prop := topPondUptoRow.holds Try.pinned (OpenSpec.upto topPondSpec)

end Rows
end Go.Proofs.Ytfndahcihmpmhaa
