/-
  No cell of these rows narrows 'for every input' (looked for: loops, veiled, ifaces, maps, wideKeys, modest, calm, conditions, laid).
  DERIVED. THE GIVEN ROWS OF THIS SEAT. 6 by the template 'for every input the law returns true; each argument reads behind the call as it read before'; 0 by the template 'total and deterministic' (their statements: YtcfejbhoeichnaaTotals.lean).
  GIVEN WITH THE SEED: the statements are not yours to turn. If you find one false, say at which input.
  Laid BY PROGRAM, IN A SANDBOX (cutbox-rows.mjs): the forced cells as the released guide's own fill.sh prints them over the translation d3ee51b5c3c7c8ae… (all of the seat's roots in one cut). By AI agents, Wed Nov 11 2026. No macro, syntax, notation, axiom, sorry.
-/
import Derived.Test.YtcfejbhoeichnaaChecked
import GoSem.Claim
import GoSem.ClaimJoined
import GoSem.ClaimMapViews
import Derived.JoinedTies
import Derived.KernelRfl
namespace Go.Proofs.Ytcfejbhoeichnaa
/- THE CELL 'sum', in the pinned program and in every row, IS THE sha256 OF THE DUMP (.gsa) THAT YtcfejbhoeichnaaProg.lean LOADS. Nothing in Lean hashes anything: it is a label: what it is worth is what the hold of that sum in a sandbox is worth. -/
noncomputable def Try.pinned : Pinned := { name := "ytcfejbhoeichnaa", sum := "d3ee51b5c3c7c8ae7e444bf41fa2ef1f416bd0bddf861d6b9ab8db09b8b44d81", checked := Try.checked }
namespace Rows
def none {H : Type} : Left H := { results := [], args := [] }

/-- 'cullaw.BloomSays': WHATEVER THE INPUT: true; the input reads as it did. -/
def bloomSaysSpec : ChangeSpec := { name := "bloomSays", fn := fun _ => fun
  | [d1, d2, d3] => { results := [.lit (.bool true)], args := [d1, d2, d3] }
  | _ => none }
def bloomSaysRow : OpenClaim := { program := "ytcfejbhoeichnaa", sum := "d3ee51b5c3c7c8ae7e444bf41fa2ef1f416bd0bddf861d6b9ab8db09b8b44d81", func := "cullender/cullaw.BloomSays", spec := "bloomSays", unfollowed := true, recurses := true, apart := false }
def BloomSaysSaid : Prop := bloomSaysRow.holds Try.pinned (OpenSpec.ofChange bloomSaysSpec)

/-- ITS FALSE NEIGHBOUR: 'it returns false'. Refute it at one input. -/
def bloomSaysWrong : ChangeSpec := { name := "bloomSays", fn := fun _ => fun
  | [d1, d2, d3] => { results := [.lit (.bool false)], args := [d1, d2, d3] }
  | _ => none }
def BloomSaysWrongFalsely : Prop := bloomSaysRow.holds Try.pinned (OpenSpec.ofChange bloomSaysWrong)

/-- 'cullaw.TableSays': WHATEVER THE INPUT: true; the input reads as it did. -/
def tableSaysSpec : ChangeSpec := { name := "tableSays", fn := fun _ => fun
  | [d1, d2, d3, d4] => { results := [.lit (.bool true)], args := [d1, d2, d3, d4] }
  | _ => none }
def tableSaysRow : OpenClaim := { program := "ytcfejbhoeichnaa", sum := "d3ee51b5c3c7c8ae7e444bf41fa2ef1f416bd0bddf861d6b9ab8db09b8b44d81", func := "cullender/cullaw.TableSays", spec := "tableSays", unfollowed := true, recurses := true, apart := false }
def TableSaysSaid : Prop := tableSaysRow.holds Try.pinned (OpenSpec.ofChange tableSaysSpec)

/-- ITS FALSE NEIGHBOUR: 'it returns false'. Refute it at one input. -/
def tableSaysWrong : ChangeSpec := { name := "tableSays", fn := fun _ => fun
  | [d1, d2, d3, d4] => { results := [.lit (.bool false)], args := [d1, d2, d3, d4] }
  | _ => none }
def TableSaysWrongFalsely : Prop := tableSaysRow.holds Try.pinned (OpenSpec.ofChange tableSaysWrong)

/-- 'culkeep.TableLow': WHATEVER THE INPUT: true; the input reads as it did. -/
def tableLowSpec : ChangeSpec := { name := "tableLow", fn := fun _ => fun
  | [d1, d2, d3, d4] => { results := [.lit (.bool true)], args := [d1, d2, d3, d4] }
  | _ => none }
def tableLowRow : OpenClaim := { program := "ytcfejbhoeichnaa", sum := "d3ee51b5c3c7c8ae7e444bf41fa2ef1f416bd0bddf861d6b9ab8db09b8b44d81", func := "cullender/culkeep.TableLow", spec := "tableLow", unfollowed := true, recurses := true, apart := false }
def TableLowSaid : Prop := tableLowRow.holds Try.pinned (OpenSpec.ofChange tableLowSpec)

/-- ITS FALSE NEIGHBOUR: 'it returns false'. Refute it at one input. -/
def tableLowWrong : ChangeSpec := { name := "tableLow", fn := fun _ => fun
  | [d1, d2, d3, d4] => { results := [.lit (.bool false)], args := [d1, d2, d3, d4] }
  | _ => none }
def TableLowWrongFalsely : Prop := tableLowRow.holds Try.pinned (OpenSpec.ofChange tableLowWrong)

/-- 'culkeep.TableJoins': WHATEVER THE INPUT: true; the input reads as it did. -/
def tableJoinsSpec : ChangeSpec := { name := "tableJoins", fn := fun _ => fun
  | [d1, d2, d3, d4] => { results := [.lit (.bool true)], args := [d1, d2, d3, d4] }
  | _ => none }
def tableJoinsRow : OpenClaim := { program := "ytcfejbhoeichnaa", sum := "d3ee51b5c3c7c8ae7e444bf41fa2ef1f416bd0bddf861d6b9ab8db09b8b44d81", func := "cullender/culkeep.TableJoins", spec := "tableJoins", unfollowed := true, recurses := true, apart := false }
def TableJoinsSaid : Prop := tableJoinsRow.holds Try.pinned (OpenSpec.ofChange tableJoinsSpec)

/-- ITS FALSE NEIGHBOUR: 'it returns false'. Refute it at one input. -/
def tableJoinsWrong : ChangeSpec := { name := "tableJoins", fn := fun _ => fun
  | [d1, d2, d3, d4] => { results := [.lit (.bool false)], args := [d1, d2, d3, d4] }
  | _ => none }
def TableJoinsWrongFalsely : Prop := tableJoinsRow.holds Try.pinned (OpenSpec.ofChange tableJoinsWrong)

/-- 'culkeep.TableMore': WHATEVER THE INPUT: true; the input reads as it did. -/
def tableMoreSpec : ChangeSpec := { name := "tableMore", fn := fun _ => fun
  | [d1, d2, d3, d4] => { results := [.lit (.bool true)], args := [d1, d2, d3, d4] }
  | _ => none }
def tableMoreRow : OpenClaim := { program := "ytcfejbhoeichnaa", sum := "d3ee51b5c3c7c8ae7e444bf41fa2ef1f416bd0bddf861d6b9ab8db09b8b44d81", func := "cullender/culkeep.TableMore", spec := "tableMore", unfollowed := true, recurses := true, apart := false }
def TableMoreSaid : Prop := tableMoreRow.holds Try.pinned (OpenSpec.ofChange tableMoreSpec)

/-- ITS FALSE NEIGHBOUR: 'it returns false'. Refute it at one input. -/
def tableMoreWrong : ChangeSpec := { name := "tableMore", fn := fun _ => fun
  | [d1, d2, d3, d4] => { results := [.lit (.bool false)], args := [d1, d2, d3, d4] }
  | _ => none }
def TableMoreWrongFalsely : Prop := tableMoreRow.holds Try.pinned (OpenSpec.ofChange tableMoreWrong)

/-- 'culkeep.TableWide': WHATEVER THE INPUT: true; the input reads as it did. -/
def tableWideSpec : ChangeSpec := { name := "tableWide", fn := fun _ => fun
  | [d1, d2, d3] => { results := [.lit (.bool true)], args := [d1, d2, d3] }
  | _ => none }
def tableWideRow : OpenClaim := { program := "ytcfejbhoeichnaa", sum := "d3ee51b5c3c7c8ae7e444bf41fa2ef1f416bd0bddf861d6b9ab8db09b8b44d81", func := "cullender/culkeep.TableWide", spec := "tableWide", unfollowed := true, recurses := true, apart := false }
def TableWideSaid : Prop := tableWideRow.holds Try.pinned (OpenSpec.ofChange tableWideSpec)

/-- ITS FALSE NEIGHBOUR: 'it returns false'. Refute it at one input. -/
def tableWideWrong : ChangeSpec := { name := "tableWide", fn := fun _ => fun
  | [d1, d2, d3] => { results := [.lit (.bool false)], args := [d1, d2, d3] }
  | _ => none }
def TableWideWrongFalsely : Prop := tableWideRow.holds Try.pinned (OpenSpec.ofChange tableWideWrong)

/- THE SECOND FORM. 'bulk': how many values and letters a reading holds, each counted each time it is reached (what is shared counts as often as it is met; a slice's spare places count too). A statement '..UptoSaid' is the law's where the arguments, and the package variables that the reading takes, are together of bulk at most 1048576: NARROWER than '..Said'. Prove '..Said' where nothing that the law and all that it calls make is longer than what came in: it says more and counts as full. Else prove '..UptoSaid'. A law counts once. -/
mutual
def uptoBulk {H : Type} : DataW H → Nat
  | .lit (.string bytes) => bytes.length + 1
  | .lit _ => 1
  | .nil => 1
  | .ptr d => uptoBulk d + 1
  | .slice elems spare => uptoBulkAll elems + uptoBulkAll spare + 1
  | .agg parts => uptoBulkAll parts + 1
  | .iface _ d => uptoBulk d + 1
  | .map entries => uptoBulkEntries entries + 1
  | .held _ => 1
def uptoBulkAll {H : Type} : List (DataW H) → Nat
  | [] => 0
  | d :: r => uptoBulk d + uptoBulkAll r
def uptoBulkEntries {H : Type} : List (Lit × DataW H) → Nat
  | [] => 0
  | x :: r => uptoBulkEntry x + uptoBulkEntries r
def uptoBulkEntry {H : Type} : Lit × DataW H → Nat
  | (.string bytes, d) => bytes.length + uptoBulk d + 1
  | (_, d) => uptoBulk d + 1
 end
def uptoSmall : (H : Type) → List (DataW H) → Bool := fun _ ds => decide (uptoBulkAll ds ≤ 1048576)
def OpenSpec.upto (s : _root_.Go.ChangeSpec) : _root_.Go.OpenSpec := { _root_.Go.OpenSpec.ofChange s with cond := some uptoSmall }

/-- 'cullaw.BloomSays', WHERE WHAT IT READS IS OF BULK AT MOST 1048576: true; the input reads as it did. -/
def bloomSaysUptoRow : OpenClaim := { program := "ytcfejbhoeichnaa", sum := "d3ee51b5c3c7c8ae7e444bf41fa2ef1f416bd0bddf861d6b9ab8db09b8b44d81", func := "cullender/cullaw.BloomSays", spec := "bloomSays", unfollowed := true, recurses := true, apart := false, narrowed := true }
def BloomSaysUptoSaid : Prop := bloomSaysUptoRow.holds Try.pinned (OpenSpec.upto bloomSaysSpec)

/-- 'cullaw.TableSays', WHERE WHAT IT READS IS OF BULK AT MOST 1048576: true; the input reads as it did. -/
def tableSaysUptoRow : OpenClaim := { program := "ytcfejbhoeichnaa", sum := "d3ee51b5c3c7c8ae7e444bf41fa2ef1f416bd0bddf861d6b9ab8db09b8b44d81", func := "cullender/cullaw.TableSays", spec := "tableSays", unfollowed := true, recurses := true, apart := false, narrowed := true }
def TableSaysUptoSaid : Prop := tableSaysUptoRow.holds Try.pinned (OpenSpec.upto tableSaysSpec)

/-- 'culkeep.TableLow', WHERE WHAT IT READS IS OF BULK AT MOST 1048576: true; the input reads as it did. -/
def tableLowUptoRow : OpenClaim := { program := "ytcfejbhoeichnaa", sum := "d3ee51b5c3c7c8ae7e444bf41fa2ef1f416bd0bddf861d6b9ab8db09b8b44d81", func := "cullender/culkeep.TableLow", spec := "tableLow", unfollowed := true, recurses := true, apart := false, narrowed := true }
def TableLowUptoSaid : Prop := tableLowUptoRow.holds Try.pinned (OpenSpec.upto tableLowSpec)

/-- 'culkeep.TableJoins', WHERE WHAT IT READS IS OF BULK AT MOST 1048576: true; the input reads as it did. -/
def tableJoinsUptoRow : OpenClaim := { program := "ytcfejbhoeichnaa", sum := "d3ee51b5c3c7c8ae7e444bf41fa2ef1f416bd0bddf861d6b9ab8db09b8b44d81", func := "cullender/culkeep.TableJoins", spec := "tableJoins", unfollowed := true, recurses := true, apart := false, narrowed := true }
def TableJoinsUptoSaid : Prop := tableJoinsUptoRow.holds Try.pinned (OpenSpec.upto tableJoinsSpec)

/-- 'culkeep.TableMore', WHERE WHAT IT READS IS OF BULK AT MOST 1048576: true; the input reads as it did. -/
def tableMoreUptoRow : OpenClaim := { program := "ytcfejbhoeichnaa", sum := "d3ee51b5c3c7c8ae7e444bf41fa2ef1f416bd0bddf861d6b9ab8db09b8b44d81", func := "cullender/culkeep.TableMore", spec := "tableMore", unfollowed := true, recurses := true, apart := false, narrowed := true }
def TableMoreUptoSaid : Prop := tableMoreUptoRow.holds Try.pinned (OpenSpec.upto tableMoreSpec)

/-- 'culkeep.TableWide', WHERE WHAT IT READS IS OF BULK AT MOST 1048576: true; the input reads as it did. -/
def tableWideUptoRow : OpenClaim := { program := "ytcfejbhoeichnaa", sum := "d3ee51b5c3c7c8ae7e444bf41fa2ef1f416bd0bddf861d6b9ab8db09b8b44d81", func := "cullender/culkeep.TableWide", spec := "tableWide", unfollowed := true, recurses := true, apart := false, narrowed := true }
def TableWideUptoSaid : Prop := tableWideUptoRow.holds Try.pinned (OpenSpec.upto tableWideSpec)

end Rows
end Go.Proofs.Ytcfejbhoeichnaa
