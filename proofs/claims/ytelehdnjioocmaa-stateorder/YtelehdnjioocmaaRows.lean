/-
  No cell of these rows narrows 'for every input' (looked for: loops, veiled, ifaces, maps, wideKeys, modest, calm, conditions, laid).
  DERIVED. THE GIVEN ROWS OF THIS SEAT. 9 by the template 'for every input the law returns true; each argument reads behind the call as it read before'; 0 by the template 'total and deterministic' (their statements: YtelehdnjioocmaaTotals.lean).
  GIVEN WITH THE SEED: the statements are not yours to turn. If you find one false, say at which input.
  Laid BY PROGRAM, IN A SANDBOX (cutbox-rows.mjs): the forced cells as the released guide's own fill.sh prints them over the translation 058499bffa67d765… (all of the seat's roots in one cut). By AI agents, Wed Nov 11 2026. No macro, syntax, notation, axiom, sorry.
-/
import Derived.Test.YtelehdnjioocmaaChecked
import GoSem.Claim
import GoSem.ClaimJoined
import GoSem.ClaimMapViews
import Derived.JoinedTies
import Derived.KernelRfl
namespace Go.Proofs.Ytelehdnjioocmaa
/- THE CELL 'sum', in the pinned program and in every row, IS THE sha256 OF THE DUMP (.gsa) THAT YtelehdnjioocmaaProg.lean LOADS. Nothing in Lean hashes anything: it is a label: what it is worth is what the hold of that sum in a sandbox is worth. -/
noncomputable def Try.pinned : Pinned := { name := "ytelehdnjioocmaa", sum := "058499bffa67d765b686c5faffeb53f1c78ecec24572895294295b9ccebca8f4", checked := Try.checked }
namespace Rows
def none {H : Type} : Left H := { results := [], args := [] }

/-- 'cullaw.GateSays': WHATEVER THE INPUT: true; the input reads as it did. -/
def gateSaysSpec : ChangeSpec := { name := "gateSays", fn := fun _ => fun
  | [d1, d2, d3, d4, d5] => { results := [.lit (.bool true)], args := [d1, d2, d3, d4, d5] }
  | _ => none }
def gateSaysRow : OpenClaim := { program := "ytelehdnjioocmaa", sum := "058499bffa67d765b686c5faffeb53f1c78ecec24572895294295b9ccebca8f4", func := "cullender/cullaw.GateSays", spec := "gateSays", named := ["math/bits.divideError", "math/bits.overflowError"], apart := false }
def GateSaysSaid : Prop := gateSaysRow.holds Try.pinned (OpenSpec.ofChange gateSaysSpec)

/-- ITS FALSE NEIGHBOUR: 'it returns false'. Refute it at one input. -/
def gateSaysWrong : ChangeSpec := { name := "gateSays", fn := fun _ => fun
  | [d1, d2, d3, d4, d5] => { results := [.lit (.bool false)], args := [d1, d2, d3, d4, d5] }
  | _ => none }
def GateSaysWrongFalsely : Prop := gateSaysRow.holds Try.pinned (OpenSpec.ofChange gateSaysWrong)

/-- 'culkeep.StateSet': WHATEVER THE INPUT: true; the input reads as it did. -/
def stateSetSpec : ChangeSpec := { name := "stateSet", fn := fun _ => fun
  | [d1, d2] => { results := [.lit (.bool true)], args := [d1, d2] }
  | _ => none }
def stateSetRow : OpenClaim := { program := "ytelehdnjioocmaa", sum := "058499bffa67d765b686c5faffeb53f1c78ecec24572895294295b9ccebca8f4", func := "cullender/culkeep.StateSet", spec := "stateSet", apart := false }
def StateSetSaid : Prop := stateSetRow.holds Try.pinned (OpenSpec.ofChange stateSetSpec)

/-- ITS FALSE NEIGHBOUR: 'it returns false'. Refute it at one input. -/
def stateSetWrong : ChangeSpec := { name := "stateSet", fn := fun _ => fun
  | [d1, d2] => { results := [.lit (.bool false)], args := [d1, d2] }
  | _ => none }
def StateSetWrongFalsely : Prop := stateSetRow.holds Try.pinned (OpenSpec.ofChange stateSetWrong)

/-- 'culkeep.GateNested': WHATEVER THE INPUT: true; the input reads as it did. -/
def gateNestedSpec : ChangeSpec := { name := "gateNested", fn := fun _ => fun
  | [d1, d2, d3, d4] => { results := [.lit (.bool true)], args := [d1, d2, d3, d4] }
  | _ => none }
def gateNestedRow : OpenClaim := { program := "ytelehdnjioocmaa", sum := "058499bffa67d765b686c5faffeb53f1c78ecec24572895294295b9ccebca8f4", func := "cullender/culkeep.GateNested", spec := "gateNested", apart := false }
def GateNestedSaid : Prop := gateNestedRow.holds Try.pinned (OpenSpec.ofChange gateNestedSpec)

/-- ITS FALSE NEIGHBOUR: 'it returns false'. Refute it at one input. -/
def gateNestedWrong : ChangeSpec := { name := "gateNested", fn := fun _ => fun
  | [d1, d2, d3, d4] => { results := [.lit (.bool false)], args := [d1, d2, d3, d4] }
  | _ => none }
def GateNestedWrongFalsely : Prop := gateNestedRow.holds Try.pinned (OpenSpec.ofChange gateNestedWrong)

/-- 'culkeep.GateLevels': WHATEVER THE INPUT: true; the input reads as it did. -/
def gateLevelsSpec : ChangeSpec := { name := "gateLevels", fn := fun _ => fun
  | [d1, d2] => { results := [.lit (.bool true)], args := [d1, d2] }
  | _ => none }
def gateLevelsRow : OpenClaim := { program := "ytelehdnjioocmaa", sum := "058499bffa67d765b686c5faffeb53f1c78ecec24572895294295b9ccebca8f4", func := "cullender/culkeep.GateLevels", spec := "gateLevels", apart := false }
def GateLevelsSaid : Prop := gateLevelsRow.holds Try.pinned (OpenSpec.ofChange gateLevelsSpec)

/-- ITS FALSE NEIGHBOUR: 'it returns false'. Refute it at one input. -/
def gateLevelsWrong : ChangeSpec := { name := "gateLevels", fn := fun _ => fun
  | [d1, d2] => { results := [.lit (.bool false)], args := [d1, d2] }
  | _ => none }
def GateLevelsWrongFalsely : Prop := gateLevelsRow.holds Try.pinned (OpenSpec.ofChange gateLevelsWrong)

/-- 'culkeep.GatePart': WHATEVER THE INPUT: true; the input reads as it did. -/
def gatePartSpec : ChangeSpec := { name := "gatePart", fn := fun _ => fun
  | [d1, d2, d3] => { results := [.lit (.bool true)], args := [d1, d2, d3] }
  | _ => none }
def gatePartRow : OpenClaim := { program := "ytelehdnjioocmaa", sum := "058499bffa67d765b686c5faffeb53f1c78ecec24572895294295b9ccebca8f4", func := "cullender/culkeep.GatePart", spec := "gatePart", named := ["math/bits.divideError", "math/bits.overflowError"], apart := false }
def GatePartSaid : Prop := gatePartRow.holds Try.pinned (OpenSpec.ofChange gatePartSpec)

/-- ITS FALSE NEIGHBOUR: 'it returns false'. Refute it at one input. -/
def gatePartWrong : ChangeSpec := { name := "gatePart", fn := fun _ => fun
  | [d1, d2, d3] => { results := [.lit (.bool false)], args := [d1, d2, d3] }
  | _ => none }
def GatePartWrongFalsely : Prop := gatePartRow.holds Try.pinned (OpenSpec.ofChange gatePartWrong)

/-- 'culkeep.GateCount': WHATEVER THE INPUT: true; the input reads as it did. -/
def gateCountSpec : ChangeSpec := { name := "gateCount", fn := fun _ => fun
  | [d1, d2, d3, d4] => { results := [.lit (.bool true)], args := [d1, d2, d3, d4] }
  | _ => none }
def gateCountRow : OpenClaim := { program := "ytelehdnjioocmaa", sum := "058499bffa67d765b686c5faffeb53f1c78ecec24572895294295b9ccebca8f4", func := "cullender/culkeep.GateCount", spec := "gateCount", named := ["math/bits.divideError", "math/bits.overflowError"], apart := false }
def GateCountSaid : Prop := gateCountRow.holds Try.pinned (OpenSpec.ofChange gateCountSpec)

/-- ITS FALSE NEIGHBOUR: 'it returns false'. Refute it at one input. -/
def gateCountWrong : ChangeSpec := { name := "gateCount", fn := fun _ => fun
  | [d1, d2, d3, d4] => { results := [.lit (.bool false)], args := [d1, d2, d3, d4] }
  | _ => none }
def GateCountWrongFalsely : Prop := gateCountRow.holds Try.pinned (OpenSpec.ofChange gateCountWrong)

/-- 'culkeep.StateOrder': WHATEVER THE INPUT: true; the input reads as it did. -/
def stateOrderSpec : ChangeSpec := { name := "stateOrder", fn := fun _ => fun
  | [d1, d2] => { results := [.lit (.bool true)], args := [d1, d2] }
  | _ => none }
def stateOrderRow : OpenClaim := { program := "ytelehdnjioocmaa", sum := "058499bffa67d765b686c5faffeb53f1c78ecec24572895294295b9ccebca8f4", func := "cullender/culkeep.StateOrder", spec := "stateOrder", apart := false }
def StateOrderSaid : Prop := stateOrderRow.holds Try.pinned (OpenSpec.ofChange stateOrderSpec)

/-- ITS FALSE NEIGHBOUR: 'it returns false'. Refute it at one input. -/
def stateOrderWrong : ChangeSpec := { name := "stateOrder", fn := fun _ => fun
  | [d1, d2] => { results := [.lit (.bool false)], args := [d1, d2] }
  | _ => none }
def StateOrderWrongFalsely : Prop := stateOrderRow.holds Try.pinned (OpenSpec.ofChange stateOrderWrong)

/-- 'culkeep.GateMost': WHATEVER THE INPUT: true; the input reads as it did. -/
def gateMostSpec : ChangeSpec := { name := "gateMost", fn := fun _ => fun
  | [d1, d2, d3] => { results := [.lit (.bool true)], args := [d1, d2, d3] }
  | _ => none }
def gateMostRow : OpenClaim := { program := "ytelehdnjioocmaa", sum := "058499bffa67d765b686c5faffeb53f1c78ecec24572895294295b9ccebca8f4", func := "cullender/culkeep.GateMost", spec := "gateMost", apart := false }
def GateMostSaid : Prop := gateMostRow.holds Try.pinned (OpenSpec.ofChange gateMostSpec)

/-- ITS FALSE NEIGHBOUR: 'it returns false'. Refute it at one input. -/
def gateMostWrong : ChangeSpec := { name := "gateMost", fn := fun _ => fun
  | [d1, d2, d3] => { results := [.lit (.bool false)], args := [d1, d2, d3] }
  | _ => none }
def GateMostWrongFalsely : Prop := gateMostRow.holds Try.pinned (OpenSpec.ofChange gateMostWrong)

/-- 'culkeep.GateHalf': WHATEVER THE INPUT: true; the input reads as it did. -/
def gateHalfSpec : ChangeSpec := { name := "gateHalf", fn := fun _ => fun
  | [d1, d2] => { results := [.lit (.bool true)], args := [d1, d2] }
  | _ => none }
def gateHalfRow : OpenClaim := { program := "ytelehdnjioocmaa", sum := "058499bffa67d765b686c5faffeb53f1c78ecec24572895294295b9ccebca8f4", func := "cullender/culkeep.GateHalf", spec := "gateHalf", named := ["math/bits.divideError", "math/bits.overflowError"], apart := false }
def GateHalfSaid : Prop := gateHalfRow.holds Try.pinned (OpenSpec.ofChange gateHalfSpec)

/-- ITS FALSE NEIGHBOUR: 'it returns false'. Refute it at one input. -/
def gateHalfWrong : ChangeSpec := { name := "gateHalf", fn := fun _ => fun
  | [d1, d2] => { results := [.lit (.bool false)], args := [d1, d2] }
  | _ => none }
def GateHalfWrongFalsely : Prop := gateHalfRow.holds Try.pinned (OpenSpec.ofChange gateHalfWrong)

/- THE SECOND FORM. 'bulk': how many values and letters a reading holds, each counted each time it is reached (what is shared counts as often as it is met; a slice's spare places count too). A statement '..UptoSaid' is the law's where the arguments, and the package variables that the reading takes, are together of bulk at most 1048576: NARROWER than '..Said'. Prove '..Said' where nothing that the law and all that it calls make is longer than what came in: it says more and counts as full. Else prove '..UptoSaid'. A law counts once. -/
mutual
def uptoBulk {H : Type} : DataW H → Nat
  | .lit (.string bytes) => bytes.length + 1
  | .lit _ => 1
  | .nil => 1
  | .ptr d => uptoBulk d + 1
  | .slice elems spare => uptoBulkAll elems + uptoBulkAll spare + 1
  | .agg parts => uptoBulkAll parts + 1
  | .iface _ d => uptoBulk d + 1
  | .map entries => uptoBulkEntries entries + 1
  | .held _ => 1
def uptoBulkAll {H : Type} : List (DataW H) → Nat
  | [] => 0
  | d :: r => uptoBulk d + uptoBulkAll r
def uptoBulkEntries {H : Type} : List (Lit × DataW H) → Nat
  | [] => 0
  | x :: r => uptoBulkEntry x + uptoBulkEntries r
def uptoBulkEntry {H : Type} : Lit × DataW H → Nat
  | (.string bytes, d) => bytes.length + uptoBulk d + 1
  | (_, d) => uptoBulk d + 1
 end
def uptoSmall : (H : Type) → List (DataW H) → Bool := fun _ ds => decide (uptoBulkAll ds ≤ 1048576)
def OpenSpec.upto (s : _root_.Go.ChangeSpec) : _root_.Go.OpenSpec := { _root_.Go.OpenSpec.ofChange s with cond := some uptoSmall }

/-- 'cullaw.GateSays', WHERE WHAT IT READS IS OF BULK AT MOST 1048576: true; the input reads as it did. -/
def gateSaysUptoRow : OpenClaim := { program := "ytelehdnjioocmaa", sum := "058499bffa67d765b686c5faffeb53f1c78ecec24572895294295b9ccebca8f4", func := "cullender/cullaw.GateSays", spec := "gateSays", named := ["math/bits.divideError", "math/bits.overflowError"], apart := false, narrowed := true }
def GateSaysUptoSaid : Prop := gateSaysUptoRow.holds Try.pinned (OpenSpec.upto gateSaysSpec)

/-- 'culkeep.StateSet', WHERE WHAT IT READS IS OF BULK AT MOST 1048576: true; the input reads as it did. -/
def stateSetUptoRow : OpenClaim := { program := "ytelehdnjioocmaa", sum := "058499bffa67d765b686c5faffeb53f1c78ecec24572895294295b9ccebca8f4", func := "cullender/culkeep.StateSet", spec := "stateSet", apart := false, narrowed := true }
def StateSetUptoSaid : Prop := stateSetUptoRow.holds Try.pinned (OpenSpec.upto stateSetSpec)

/-- 'culkeep.GateNested', WHERE WHAT IT READS IS OF BULK AT MOST 1048576: true; the input reads as it did. -/
def gateNestedUptoRow : OpenClaim := { program := "ytelehdnjioocmaa", sum := "058499bffa67d765b686c5faffeb53f1c78ecec24572895294295b9ccebca8f4", func := "cullender/culkeep.GateNested", spec := "gateNested", apart := false, narrowed := true }
def GateNestedUptoSaid : Prop := gateNestedUptoRow.holds Try.pinned (OpenSpec.upto gateNestedSpec)

/-- 'culkeep.GateLevels', WHERE WHAT IT READS IS OF BULK AT MOST 1048576: true; the input reads as it did. -/
def gateLevelsUptoRow : OpenClaim := { program := "ytelehdnjioocmaa", sum := "058499bffa67d765b686c5faffeb53f1c78ecec24572895294295b9ccebca8f4", func := "cullender/culkeep.GateLevels", spec := "gateLevels", apart := false, narrowed := true }
def GateLevelsUptoSaid : Prop := gateLevelsUptoRow.holds Try.pinned (OpenSpec.upto gateLevelsSpec)

/-- 'culkeep.GatePart', WHERE WHAT IT READS IS OF BULK AT MOST 1048576: true; the input reads as it did. -/
def gatePartUptoRow : OpenClaim := { program := "ytelehdnjioocmaa", sum := "058499bffa67d765b686c5faffeb53f1c78ecec24572895294295b9ccebca8f4", func := "cullender/culkeep.GatePart", spec := "gatePart", named := ["math/bits.divideError", "math/bits.overflowError"], apart := false, narrowed := true }
def GatePartUptoSaid : Prop := gatePartUptoRow.holds Try.pinned (OpenSpec.upto gatePartSpec)

/-- 'culkeep.GateCount', WHERE WHAT IT READS IS OF BULK AT MOST 1048576: true; the input reads as it did. -/
def gateCountUptoRow : OpenClaim := { program := "ytelehdnjioocmaa", sum := "058499bffa67d765b686c5faffeb53f1c78ecec24572895294295b9ccebca8f4", func := "cullender/culkeep.GateCount", spec := "gateCount", named := ["math/bits.divideError", "math/bits.overflowError"], apart := false, narrowed := true }
def GateCountUptoSaid : Prop := gateCountUptoRow.holds Try.pinned (OpenSpec.upto gateCountSpec)

/-- 'culkeep.StateOrder', WHERE WHAT IT READS IS OF BULK AT MOST 1048576: true; the input reads as it did. -/
def stateOrderUptoRow : OpenClaim := { program := "ytelehdnjioocmaa", sum := "058499bffa67d765b686c5faffeb53f1c78ecec24572895294295b9ccebca8f4", func := "cullender/culkeep.StateOrder", spec := "stateOrder", apart := false, narrowed := true }
def StateOrderUptoSaid : Prop := stateOrderUptoRow.holds Try.pinned (OpenSpec.upto stateOrderSpec)

/-- 'culkeep.GateMost', WHERE WHAT IT READS IS OF BULK AT MOST 1048576: true; the input reads as it did. -/
def gateMostUptoRow : OpenClaim := { program := "ytelehdnjioocmaa", sum := "058499bffa67d765b686c5faffeb53f1c78ecec24572895294295b9ccebca8f4", func := "cullender/culkeep.GateMost", spec := "gateMost", apart := false, narrowed := true }
def GateMostUptoSaid : Prop := gateMostUptoRow.holds Try.pinned (OpenSpec.upto gateMostSpec)

/-- 'culkeep.GateHalf', WHERE WHAT IT READS IS OF BULK AT MOST 1048576: true; the input reads as it did. -/
def gateHalfUptoRow : OpenClaim := { program := "ytelehdnjioocmaa", sum := "058499bffa67d765b686c5faffeb53f1c78ecec24572895294295b9ccebca8f4", func := "cullender/culkeep.GateHalf", spec := "gateHalf", named := ["math/bits.divideError", "math/bits.overflowError"], apart := false, narrowed := true }
def GateHalfUptoSaid : Prop := gateHalfUptoRow.holds Try.pinned (OpenSpec.upto gateHalfSpec)

end Rows
end Go.Proofs.Ytelehdnjioocmaa
