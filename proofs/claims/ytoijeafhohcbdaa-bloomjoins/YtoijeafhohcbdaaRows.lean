/-
  No cell of these rows narrows 'for every input' (looked for: loops, veiled, ifaces, maps, wideKeys, modest, calm, conditions, laid).
  DERIVED. THE GIVEN ROWS OF THIS SEAT. 9 by the template 'for every input the law returns true; each argument reads behind the call as it read before'; 0 by the template 'total and deterministic' (their statements: YtoijeafhohcbdaaTotals.lean).
  GIVEN WITH THE SEED: the statements are not yours to turn. If you find one false, say at which input.
  Laid BY PROGRAM, IN A SANDBOX (cutbox-rows.mjs): the forced cells as the released guide's own fill.sh prints them over the translation 26c0df32123eb50c… (all of the seat's roots in one cut). By AI agents, Wed Nov 11 2026. No macro, syntax, notation, axiom, sorry.
-/
import Derived.Test.YtoijeafhohcbdaaChecked
import GoSem.Claim
import GoSem.ClaimJoined
import GoSem.ClaimMapViews
import Derived.JoinedTies
import Derived.KernelRfl
namespace Go.Proofs.Ytoijeafhohcbdaa
/- THE CELL 'sum', in the pinned program and in every row, IS THE sha256 OF THE DUMP (.gsa) THAT YtoijeafhohcbdaaProg.lean LOADS. Nothing in Lean hashes anything: it is a label: what it is worth is what the hold of that sum in a sandbox is worth. -/
noncomputable def Try.pinned : Pinned := { name := "ytoijeafhohcbdaa", sum := "26c0df32123eb50c9bd5f1602a7cc53979c725d2dd34ffdf9d69e3f755526a16", checked := Try.checked }
namespace Rows
def none {H : Type} : Left H := { results := [], args := [] }

/-- 'cullaw.AlikeSays': WHATEVER THE INPUT: true; the input reads as it did. -/
def alikeSaysSpec : ChangeSpec := { name := "alikeSays", fn := fun _ => fun
  | [d1, d2, d3] => { results := [.lit (.bool true)], args := [d1, d2, d3] }
  | _ => none }
def alikeSaysRow : OpenClaim := { program := "ytoijeafhohcbdaa", sum := "26c0df32123eb50c9bd5f1602a7cc53979c725d2dd34ffdf9d69e3f755526a16", func := "cullender/cullaw.AlikeSays", spec := "alikeSays", unfollowed := true, recurses := true, apart := false }
def AlikeSaysSaid : Prop := alikeSaysRow.holds Try.pinned (OpenSpec.ofChange alikeSaysSpec)

/-- ITS FALSE NEIGHBOUR: 'it returns false'. Refute it at one input. -/
def alikeSaysWrong : ChangeSpec := { name := "alikeSays", fn := fun _ => fun
  | [d1, d2, d3] => { results := [.lit (.bool false)], args := [d1, d2, d3] }
  | _ => none }
def AlikeSaysWrongFalsely : Prop := alikeSaysRow.holds Try.pinned (OpenSpec.ofChange alikeSaysWrong)

/-- 'cullaw.BloomSays': WHATEVER THE INPUT: true; the input reads as it did. -/
def bloomSaysSpec : ChangeSpec := { name := "bloomSays", fn := fun _ => fun
  | [d1, d2, d3] => { results := [.lit (.bool true)], args := [d1, d2, d3] }
  | _ => none }
def bloomSaysRow : OpenClaim := { program := "ytoijeafhohcbdaa", sum := "26c0df32123eb50c9bd5f1602a7cc53979c725d2dd34ffdf9d69e3f755526a16", func := "cullender/cullaw.BloomSays", spec := "bloomSays", unfollowed := true, recurses := true, apart := false }
def BloomSaysSaid : Prop := bloomSaysRow.holds Try.pinned (OpenSpec.ofChange bloomSaysSpec)

/-- ITS FALSE NEIGHBOUR: 'it returns false'. Refute it at one input. -/
def bloomSaysWrong : ChangeSpec := { name := "bloomSays", fn := fun _ => fun
  | [d1, d2, d3] => { results := [.lit (.bool false)], args := [d1, d2, d3] }
  | _ => none }
def BloomSaysWrongFalsely : Prop := bloomSaysRow.holds Try.pinned (OpenSpec.ofChange bloomSaysWrong)

/-- 'culkeep.AlikeAll': WHATEVER THE INPUT: true; the input reads as it did. -/
def alikeAllSpec : ChangeSpec := { name := "alikeAll", fn := fun _ => fun
  | [d1, d2, d3] => { results := [.lit (.bool true)], args := [d1, d2, d3] }
  | _ => none }
def alikeAllRow : OpenClaim := { program := "ytoijeafhohcbdaa", sum := "26c0df32123eb50c9bd5f1602a7cc53979c725d2dd34ffdf9d69e3f755526a16", func := "cullender/culkeep.AlikeAll", spec := "alikeAll", unfollowed := true, recurses := true, apart := false }
def AlikeAllSaid : Prop := alikeAllRow.holds Try.pinned (OpenSpec.ofChange alikeAllSpec)

/-- ITS FALSE NEIGHBOUR: 'it returns false'. Refute it at one input. -/
def alikeAllWrong : ChangeSpec := { name := "alikeAll", fn := fun _ => fun
  | [d1, d2, d3] => { results := [.lit (.bool false)], args := [d1, d2, d3] }
  | _ => none }
def AlikeAllWrongFalsely : Prop := alikeAllRow.holds Try.pinned (OpenSpec.ofChange alikeAllWrong)

/-- 'culkeep.AlikeJoin': WHATEVER THE INPUT: true; the input reads as it did. -/
def alikeJoinSpec : ChangeSpec := { name := "alikeJoin", fn := fun _ => fun
  | [d1, d2, d3, d4] => { results := [.lit (.bool true)], args := [d1, d2, d3, d4] }
  | _ => none }
def alikeJoinRow : OpenClaim := { program := "ytoijeafhohcbdaa", sum := "26c0df32123eb50c9bd5f1602a7cc53979c725d2dd34ffdf9d69e3f755526a16", func := "cullender/culkeep.AlikeJoin", spec := "alikeJoin", unfollowed := true, recurses := true, apart := false }
def AlikeJoinSaid : Prop := alikeJoinRow.holds Try.pinned (OpenSpec.ofChange alikeJoinSpec)

/-- ITS FALSE NEIGHBOUR: 'it returns false'. Refute it at one input. -/
def alikeJoinWrong : ChangeSpec := { name := "alikeJoin", fn := fun _ => fun
  | [d1, d2, d3, d4] => { results := [.lit (.bool false)], args := [d1, d2, d3, d4] }
  | _ => none }
def AlikeJoinWrongFalsely : Prop := alikeJoinRow.holds Try.pinned (OpenSpec.ofChange alikeJoinWrong)

/-- 'culkeep.BloomNever': WHATEVER THE INPUT: true; the input reads as it did. -/
def bloomNeverSpec : ChangeSpec := { name := "bloomNever", fn := fun _ => fun
  | [d1, d2, d3, d4] => { results := [.lit (.bool true)], args := [d1, d2, d3, d4] }
  | _ => none }
def bloomNeverRow : OpenClaim := { program := "ytoijeafhohcbdaa", sum := "26c0df32123eb50c9bd5f1602a7cc53979c725d2dd34ffdf9d69e3f755526a16", func := "cullender/culkeep.BloomNever", spec := "bloomNever", unfollowed := true, recurses := true, apart := false }
def BloomNeverSaid : Prop := bloomNeverRow.holds Try.pinned (OpenSpec.ofChange bloomNeverSpec)

/-- ITS FALSE NEIGHBOUR: 'it returns false'. Refute it at one input. -/
def bloomNeverWrong : ChangeSpec := { name := "bloomNever", fn := fun _ => fun
  | [d1, d2, d3, d4] => { results := [.lit (.bool false)], args := [d1, d2, d3, d4] }
  | _ => none }
def BloomNeverWrongFalsely : Prop := bloomNeverRow.holds Try.pinned (OpenSpec.ofChange bloomNeverWrong)

/-- 'culkeep.BloomJoins': WHATEVER THE INPUT: true; the input reads as it did. -/
def bloomJoinsSpec : ChangeSpec := { name := "bloomJoins", fn := fun _ => fun
  | [d1, d2, d3, d4] => { results := [.lit (.bool true)], args := [d1, d2, d3, d4] }
  | _ => none }
def bloomJoinsRow : OpenClaim := { program := "ytoijeafhohcbdaa", sum := "26c0df32123eb50c9bd5f1602a7cc53979c725d2dd34ffdf9d69e3f755526a16", func := "cullender/culkeep.BloomJoins", spec := "bloomJoins", apart := false }
def BloomJoinsSaid : Prop := bloomJoinsRow.holds Try.pinned (OpenSpec.ofChange bloomJoinsSpec)

/-- ITS FALSE NEIGHBOUR: 'it returns false'. Refute it at one input. -/
def bloomJoinsWrong : ChangeSpec := { name := "bloomJoins", fn := fun _ => fun
  | [d1, d2, d3, d4] => { results := [.lit (.bool false)], args := [d1, d2, d3, d4] }
  | _ => none }
def BloomJoinsWrongFalsely : Prop := bloomJoinsRow.holds Try.pinned (OpenSpec.ofChange bloomJoinsWrong)

/-- 'culkeep.AlikeSigns': WHATEVER THE INPUT: true; the input reads as it did. -/
def alikeSignsSpec : ChangeSpec := { name := "alikeSigns", fn := fun _ => fun
  | [d1, d2, d3, d4] => { results := [.lit (.bool true)], args := [d1, d2, d3, d4] }
  | _ => none }
def alikeSignsRow : OpenClaim := { program := "ytoijeafhohcbdaa", sum := "26c0df32123eb50c9bd5f1602a7cc53979c725d2dd34ffdf9d69e3f755526a16", func := "cullender/culkeep.AlikeSigns", spec := "alikeSigns", unfollowed := true, recurses := true, apart := false }
def AlikeSignsSaid : Prop := alikeSignsRow.holds Try.pinned (OpenSpec.ofChange alikeSignsSpec)

/-- ITS FALSE NEIGHBOUR: 'it returns false'. Refute it at one input. -/
def alikeSignsWrong : ChangeSpec := { name := "alikeSigns", fn := fun _ => fun
  | [d1, d2, d3, d4] => { results := [.lit (.bool false)], args := [d1, d2, d3, d4] }
  | _ => none }
def AlikeSignsWrongFalsely : Prop := alikeSignsRow.holds Try.pinned (OpenSpec.ofChange alikeSignsWrong)

/-- 'culkeep.BloomGrows': WHATEVER THE INPUT: true; the input reads as it did. -/
def bloomGrowsSpec : ChangeSpec := { name := "bloomGrows", fn := fun _ => fun
  | [d1, d2, d3, d4] => { results := [.lit (.bool true)], args := [d1, d2, d3, d4] }
  | _ => none }
def bloomGrowsRow : OpenClaim := { program := "ytoijeafhohcbdaa", sum := "26c0df32123eb50c9bd5f1602a7cc53979c725d2dd34ffdf9d69e3f755526a16", func := "cullender/culkeep.BloomGrows", spec := "bloomGrows", unfollowed := true, recurses := true, apart := false }
def BloomGrowsSaid : Prop := bloomGrowsRow.holds Try.pinned (OpenSpec.ofChange bloomGrowsSpec)

/-- ITS FALSE NEIGHBOUR: 'it returns false'. Refute it at one input. -/
def bloomGrowsWrong : ChangeSpec := { name := "bloomGrows", fn := fun _ => fun
  | [d1, d2, d3, d4] => { results := [.lit (.bool false)], args := [d1, d2, d3, d4] }
  | _ => none }
def BloomGrowsWrongFalsely : Prop := bloomGrowsRow.holds Try.pinned (OpenSpec.ofChange bloomGrowsWrong)

/-- 'cultop.TopPond': WHATEVER THE INPUT: true; the input reads as it did. -/
def topPondSpec : ChangeSpec := { name := "topPond", fn := fun _ => fun
  | [d1, d2] => { results := [.lit (.bool true)], args := [d1, d2] }
  | _ => none }
def topPondRow : OpenClaim := { program := "ytoijeafhohcbdaa", sum := "26c0df32123eb50c9bd5f1602a7cc53979c725d2dd34ffdf9d69e3f755526a16", func := "cullender/cultop.TopPond", spec := "topPond", unfollowed := true, recurses := true, apart := false }
def TopPondSaid : Prop := topPondRow.holds Try.pinned (OpenSpec.ofChange topPondSpec)

/-- ITS FALSE NEIGHBOUR: 'it returns false'. Refute it at one input. -/
def topPondWrong : ChangeSpec := { name := "topPond", fn := fun _ => fun
  | [d1, d2] => { results := [.lit (.bool false)], args := [d1, d2] }
  | _ => none }
def TopPondWrongFalsely : Prop := topPondRow.holds Try.pinned (OpenSpec.ofChange topPondWrong)

/- THE SECOND FORM. 'bulk': how many values and letters a reading holds, each counted each time it is reached (what is shared counts as often as it is met; a slice's spare places count too). A statement '..UptoSaid' is the law's where the arguments, and the package variables that the reading takes, are together of bulk at most 1048576: NARROWER than '..Said'. Prove '..Said' where nothing that the law and all that it calls make is longer than what came in: it says more and counts as full. Else prove '..UptoSaid'. A law counts once. -/
mutual
def uptoBulk {H : Type} : DataW H → Nat
  | .lit (.string bytes) => bytes.length + 1
  | .lit _ => 1
  | .nil => 1
  | .ptr d => uptoBulk d + 1
  | .slice elems spare => uptoBulkAll elems + uptoBulkAll spare + 1
  | .agg parts => uptoBulkAll parts + 1
  | .iface _ d => uptoBulk d + 1
  | .map entries => uptoBulkEntries entries + 1
  | .held _ => 1
def uptoBulkAll {H : Type} : List (DataW H) → Nat
  | [] => 0
  | d :: r => uptoBulk d + uptoBulkAll r
def uptoBulkEntries {H : Type} : List (Lit × DataW H) → Nat
  | [] => 0
  | x :: r => uptoBulkEntry x + uptoBulkEntries r
def uptoBulkEntry {H : Type} : Lit × DataW H → Nat
  | (.string bytes, d) => bytes.length + uptoBulk d + 1
  | (_, d) => uptoBulk d + 1
 end
def uptoSmall : (H : Type) → List (DataW H) → Bool := fun _ ds => decide (uptoBulkAll ds ≤ 1048576)
def OpenSpec.upto (s : _root_.Go.ChangeSpec) : _root_.Go.OpenSpec := { _root_.Go.OpenSpec.ofChange s with cond := some uptoSmall }

/-- 'cullaw.AlikeSays', WHERE WHAT IT READS IS OF BULK AT MOST 1048576: true; the input reads as it did. -/
def alikeSaysUptoRow : OpenClaim := { program := "ytoijeafhohcbdaa", sum := "26c0df32123eb50c9bd5f1602a7cc53979c725d2dd34ffdf9d69e3f755526a16", func := "cullender/cullaw.AlikeSays", spec := "alikeSays", unfollowed := true, recurses := true, apart := false, narrowed := true }
def AlikeSaysUptoSaid : Prop := alikeSaysUptoRow.holds Try.pinned (OpenSpec.upto alikeSaysSpec)

/-- 'cullaw.BloomSays', WHERE WHAT IT READS IS OF BULK AT MOST 1048576: true; the input reads as it did. -/
def bloomSaysUptoRow : OpenClaim := { program := "ytoijeafhohcbdaa", sum := "26c0df32123eb50c9bd5f1602a7cc53979c725d2dd34ffdf9d69e3f755526a16", func := "cullender/cullaw.BloomSays", spec := "bloomSays", unfollowed := true, recurses := true, apart := false, narrowed := true }
def BloomSaysUptoSaid : Prop := bloomSaysUptoRow.holds Try.pinned (OpenSpec.upto bloomSaysSpec)

/-- 'culkeep.AlikeAll', WHERE WHAT IT READS IS OF BULK AT MOST 1048576: true; the input reads as it did. -/
def alikeAllUptoRow : OpenClaim := { program := "ytoijeafhohcbdaa", sum := "26c0df32123eb50c9bd5f1602a7cc53979c725d2dd34ffdf9d69e3f755526a16", func := "cullender/culkeep.AlikeAll", spec := "alikeAll", unfollowed := true, recurses := true, apart := false, narrowed := true }
def AlikeAllUptoSaid : Prop := alikeAllUptoRow.holds Try.pinned (OpenSpec.upto alikeAllSpec)

/-- 'culkeep.AlikeJoin', WHERE WHAT IT READS IS OF BULK AT MOST 1048576: true; the input reads as it did. -/
def alikeJoinUptoRow : OpenClaim := { program := "ytoijeafhohcbdaa", sum := "26c0df32123eb50c9bd5f1602a7cc53979c725d2dd34ffdf9d69e3f755526a16", func := "cullender/culkeep.AlikeJoin", spec := "alikeJoin", unfollowed := true, recurses := true, apart := false, narrowed := true }
def AlikeJoinUptoSaid : Prop := alikeJoinUptoRow.holds Try.pinned (OpenSpec.upto alikeJoinSpec)

/-- 'culkeep.BloomNever', WHERE WHAT IT READS IS OF BULK AT MOST 1048576: true; the input reads as it did. -/
def bloomNeverUptoRow : OpenClaim := { program := "ytoijeafhohcbdaa", sum := "26c0df32123eb50c9bd5f1602a7cc53979c725d2dd34ffdf9d69e3f755526a16", func := "cullender/culkeep.BloomNever", spec := "bloomNever", unfollowed := true, recurses := true, apart := false, narrowed := true }
def BloomNeverUptoSaid : Prop := bloomNeverUptoRow.holds Try.pinned (OpenSpec.upto bloomNeverSpec)

/-- 'culkeep.BloomJoins', WHERE WHAT IT READS IS OF BULK AT MOST 1048576: true; the input reads as it did. -/
def bloomJoinsUptoRow : OpenClaim := { program := "ytoijeafhohcbdaa", sum := "26c0df32123eb50c9bd5f1602a7cc53979c725d2dd34ffdf9d69e3f755526a16", func := "cullender/culkeep.BloomJoins", spec := "bloomJoins", apart := false, narrowed := true }
def BloomJoinsUptoSaid : Prop := bloomJoinsUptoRow.holds Try.pinned (OpenSpec.upto bloomJoinsSpec)

/-- 'culkeep.AlikeSigns', WHERE WHAT IT READS IS OF BULK AT MOST 1048576: true; the input reads as it did. -/
def alikeSignsUptoRow : OpenClaim := { program := "ytoijeafhohcbdaa", sum := "26c0df32123eb50c9bd5f1602a7cc53979c725d2dd34ffdf9d69e3f755526a16", func := "cullender/culkeep.AlikeSigns", spec := "alikeSigns", unfollowed := true, recurses := true, apart := false, narrowed := true }
def AlikeSignsUptoSaid : Prop := alikeSignsUptoRow.holds Try.pinned (OpenSpec.upto alikeSignsSpec)

/-- 'culkeep.BloomGrows', WHERE WHAT IT READS IS OF BULK AT MOST 1048576: true; the input reads as it did. -/
def bloomGrowsUptoRow : OpenClaim := { program := "ytoijeafhohcbdaa", sum := "26c0df32123eb50c9bd5f1602a7cc53979c725d2dd34ffdf9d69e3f755526a16", func := "cullender/culkeep.BloomGrows", spec := "bloomGrows", unfollowed := true, recurses := true, apart := false, narrowed := true }
def BloomGrowsUptoSaid : Prop := bloomGrowsUptoRow.holds Try.pinned (OpenSpec.upto bloomGrowsSpec)

/-- 'cultop.TopPond', WHERE WHAT IT READS IS OF BULK AT MOST 1048576: true; the input reads as it did. -/
def topPondUptoRow : OpenClaim := { program := "ytoijeafhohcbdaa", sum := "26c0df32123eb50c9bd5f1602a7cc53979c725d2dd34ffdf9d69e3f755526a16", func := "cullender/cultop.TopPond", spec := "topPond", unfollowed := true, recurses := true, apart := false, narrowed := true }
def TopPondUptoSaid : Prop := topPondUptoRow.holds Try.pinned (OpenSpec.upto topPondSpec)

end Rows
end Go.Proofs.Ytoijeafhohcbdaa
