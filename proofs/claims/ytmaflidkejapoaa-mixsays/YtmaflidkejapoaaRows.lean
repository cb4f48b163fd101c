/-
  No cell of these rows narrows 'for every input' (looked for: loops, veiled, ifaces, maps, wideKeys, modest, calm, conditions, laid).
  DERIVED. THE GIVEN ROWS OF THIS SEAT. 6 by the template 'for every input the law returns true; each argument reads behind the call as it read before'; 0 by the template 'total and deterministic' (their statements: YtmaflidkejapoaaTotals.lean).
  GIVEN WITH THE SEED: the statements are not yours to turn. If you find one false, say at which input.
  Laid BY PROGRAM, IN A SANDBOX (cutbox-rows.mjs): the forced cells as the released guide's own fill.sh prints them over the translation 9113d1cfc3f32a25… (all of the seat's roots in one cut). By AI agents, Wed Nov 11 2026. No macro, syntax, notation, axiom, sorry.
-/
import Derived.Test.YtmaflidkejapoaaChecked
import GoSem.Claim
import GoSem.ClaimJoined
import GoSem.ClaimMapViews
import Derived.JoinedTies
import Derived.KernelRfl
namespace Go.Proofs.Ytmaflidkejapoaa
/- THE CELL 'sum', in the pinned program and in every row, IS THE sha256 OF THE DUMP (.gsa) THAT YtmaflidkejapoaaProg.lean LOADS. Nothing in Lean hashes anything: it is a label: what it is worth is what the hold of that sum in a sandbox is worth. -/
noncomputable def Try.pinned : Pinned := { name := "ytmaflidkejapoaa", sum := "9113d1cfc3f32a25b8e1180c49a4071762019e7d4db250a388e24d2eb33826d2", checked := Try.checked }
namespace Rows
def none {H : Type} : Left H := { results := [], args := [] }

/-- 'cullaw.MixSays': WHATEVER THE INPUT: true; the input reads as it did. -/
def mixSaysSpec : ChangeSpec := { name := "mixSays", fn := fun _ => fun
  | [d1, d2] => { results := [.lit (.bool true)], args := [d1, d2] }
  | _ => none }
def mixSaysRow : OpenClaim := { program := "ytmaflidkejapoaa", sum := "9113d1cfc3f32a25b8e1180c49a4071762019e7d4db250a388e24d2eb33826d2", func := "cullender/cullaw.MixSays", spec := "mixSays", recurses := true, apart := false }
def MixSaysSaid : Prop := mixSaysRow.holds Try.pinned (OpenSpec.ofChange mixSaysSpec)

/-- ITS FALSE NEIGHBOUR: 'it returns false'. Refute it at one input. -/
def mixSaysWrong : ChangeSpec := { name := "mixSays", fn := fun _ => fun
  | [d1, d2] => { results := [.lit (.bool false)], args := [d1, d2] }
  | _ => none }
def MixSaysWrongFalsely : Prop := mixSaysRow.holds Try.pinned (OpenSpec.ofChange mixSaysWrong)

/-- 'culkeep.MixBack': WHATEVER THE INPUT: true; the input reads as it did. -/
def mixBackSpec : ChangeSpec := { name := "mixBack", fn := fun _ => fun
  | [d1, d2] => { results := [.lit (.bool true)], args := [d1, d2] }
  | _ => none }
def mixBackRow : OpenClaim := { program := "ytmaflidkejapoaa", sum := "9113d1cfc3f32a25b8e1180c49a4071762019e7d4db250a388e24d2eb33826d2", func := "cullender/culkeep.MixBack", spec := "mixBack", apart := false }
def MixBackSaid : Prop := mixBackRow.holds Try.pinned (OpenSpec.ofChange mixBackSpec)

/-- ITS FALSE NEIGHBOUR: 'it returns false'. Refute it at one input. -/
def mixBackWrong : ChangeSpec := { name := "mixBack", fn := fun _ => fun
  | [d1, d2] => { results := [.lit (.bool false)], args := [d1, d2] }
  | _ => none }
def MixBackWrongFalsely : Prop := mixBackRow.holds Try.pinned (OpenSpec.ofChange mixBackWrong)

/-- 'culkeep.MixNext': WHATEVER THE INPUT: true; the input reads as it did. -/
def mixNextSpec : ChangeSpec := { name := "mixNext", fn := fun _ => fun
  | [d1, d2] => { results := [.lit (.bool true)], args := [d1, d2] }
  | _ => none }
def mixNextRow : OpenClaim := { program := "ytmaflidkejapoaa", sum := "9113d1cfc3f32a25b8e1180c49a4071762019e7d4db250a388e24d2eb33826d2", func := "cullender/culkeep.MixNext", spec := "mixNext", apart := false }
def MixNextSaid : Prop := mixNextRow.holds Try.pinned (OpenSpec.ofChange mixNextSpec)

/-- ITS FALSE NEIGHBOUR: 'it returns false'. Refute it at one input. -/
def mixNextWrong : ChangeSpec := { name := "mixNext", fn := fun _ => fun
  | [d1, d2] => { results := [.lit (.bool false)], args := [d1, d2] }
  | _ => none }
def MixNextWrongFalsely : Prop := mixNextRow.holds Try.pinned (OpenSpec.ofChange mixNextWrong)

/-- 'culkeep.HexaBack': WHATEVER THE INPUT: true; the input reads as it did. -/
def hexaBackSpec : ChangeSpec := { name := "hexaBack", fn := fun _ => fun
  | [d1, d2, d3] => { results := [.lit (.bool true)], args := [d1, d2, d3] }
  | _ => none }
def hexaBackRow : OpenClaim := { program := "ytmaflidkejapoaa", sum := "9113d1cfc3f32a25b8e1180c49a4071762019e7d4db250a388e24d2eb33826d2", func := "cullender/culkeep.HexaBack", spec := "hexaBack", apart := false }
def HexaBackSaid : Prop := hexaBackRow.holds Try.pinned (OpenSpec.ofChange hexaBackSpec)

/-- ITS FALSE NEIGHBOUR: 'it returns false'. Refute it at one input. -/
def hexaBackWrong : ChangeSpec := { name := "hexaBack", fn := fun _ => fun
  | [d1, d2, d3] => { results := [.lit (.bool false)], args := [d1, d2, d3] }
  | _ => none }
def HexaBackWrongFalsely : Prop := hexaBackRow.holds Try.pinned (OpenSpec.ofChange hexaBackWrong)

/-- 'culkeep.MixText': WHATEVER THE INPUT: true; the input reads as it did. -/
def mixTextSpec : ChangeSpec := { name := "mixText", fn := fun _ => fun
  | [d1, d2] => { results := [.lit (.bool true)], args := [d1, d2] }
  | _ => none }
def mixTextRow : OpenClaim := { program := "ytmaflidkejapoaa", sum := "9113d1cfc3f32a25b8e1180c49a4071762019e7d4db250a388e24d2eb33826d2", func := "cullender/culkeep.MixText", spec := "mixText", apart := false }
def MixTextSaid : Prop := mixTextRow.holds Try.pinned (OpenSpec.ofChange mixTextSpec)

/-- ITS FALSE NEIGHBOUR: 'it returns false'. Refute it at one input. -/
def mixTextWrong : ChangeSpec := { name := "mixText", fn := fun _ => fun
  | [d1, d2] => { results := [.lit (.bool false)], args := [d1, d2] }
  | _ => none }
def MixTextWrongFalsely : Prop := mixTextRow.holds Try.pinned (OpenSpec.ofChange mixTextWrong)

/-- 'culkeep.HexaShort': WHATEVER THE INPUT: true; the input reads as it did. -/
def hexaShortSpec : ChangeSpec := { name := "hexaShort", fn := fun _ => fun
  | [d1, d2] => { results := [.lit (.bool true)], args := [d1, d2] }
  | _ => none }
def hexaShortRow : OpenClaim := { program := "ytmaflidkejapoaa", sum := "9113d1cfc3f32a25b8e1180c49a4071762019e7d4db250a388e24d2eb33826d2", func := "cullender/culkeep.HexaShort", spec := "hexaShort", apart := false }
def HexaShortSaid : Prop := hexaShortRow.holds Try.pinned (OpenSpec.ofChange hexaShortSpec)

/-- ITS FALSE NEIGHBOUR: 'it returns false'. Refute it at one input. -/
def hexaShortWrong : ChangeSpec := { name := "hexaShort", fn := fun _ => fun
  | [d1, d2] => { results := [.lit (.bool false)], args := [d1, d2] }
  | _ => none }
def HexaShortWrongFalsely : Prop := hexaShortRow.holds Try.pinned (OpenSpec.ofChange hexaShortWrong)

/- THE SECOND FORM. 'bulk': how many values and letters a reading holds, each counted each time it is reached (what is shared counts as often as it is met; a slice's spare places count too). A statement '..UptoSaid' is the law's where the arguments, and the package variables that the reading takes, are together of bulk at most 1048576: NARROWER than '..Said'. Prove '..Said' where nothing that the law and all that it calls make is longer than what came in: it says more and counts as full. Else prove '..UptoSaid'. A law counts once. -/
mutual
def uptoBulk {H : Type} : DataW H → Nat
  | .lit (.string bytes) => bytes.length + 1
  | .lit _ => 1
  | .nil => 1
  | .ptr d => uptoBulk d + 1
  | .slice elems spare => uptoBulkAll elems + uptoBulkAll spare + 1
  | .agg parts => uptoBulkAll parts + 1
  | .iface _ d => uptoBulk d + 1
  | .map entries => uptoBulkEntries entries + 1
  | .held _ => 1
def uptoBulkAll {H : Type} : List (DataW H) → Nat
  | [] => 0
  | d :: r => uptoBulk d + uptoBulkAll r
def uptoBulkEntries {H : Type} : List (Lit × DataW H) → Nat
  | [] => 0
  | x :: r => uptoBulkEntry x + uptoBulkEntries r
def uptoBulkEntry {H : Type} : Lit × DataW H → Nat
  | (.string bytes, d) => bytes.length + uptoBulk d + 1
  | (_, d) => uptoBulk d + 1
 end
def uptoSmall : (H : Type) → List (DataW H) → Bool := fun _ ds => decide (uptoBulkAll ds ≤ 1048576)
def OpenSpec.upto (s : _root_.Go.ChangeSpec) : _root_.Go.OpenSpec := { _root_.Go.OpenSpec.ofChange s with cond := some uptoSmall }

/-- 'cullaw.MixSays', WHERE WHAT IT READS IS OF BULK AT MOST 1048576: true; the input reads as it did. -/
def mixSaysUptoRow : OpenClaim := { program := "ytmaflidkejapoaa", sum := "9113d1cfc3f32a25b8e1180c49a4071762019e7d4db250a388e24d2eb33826d2", func := "cullender/cullaw.MixSays", spec := "mixSays", recurses := true, apart := false, narrowed := true }
def MixSaysUptoSaid : Prop := mixSaysUptoRow.holds Try.pinned (OpenSpec.upto mixSaysSpec)

/-- 'culkeep.MixBack', WHERE WHAT IT READS IS OF BULK AT MOST 1048576: true; the input reads as it did. -/
def mixBackUptoRow : OpenClaim := { program := "ytmaflidkejapoaa", sum := "9113d1cfc3f32a25b8e1180c49a4071762019e7d4db250a388e24d2eb33826d2", func := "cullender/culkeep.MixBack", spec := "mixBack", apart := false, narrowed := true }
def MixBackUptoSaid : Prop := mixBackUptoRow.holds Try.pinned (OpenSpec.upto mixBackSpec)

/-- 'culkeep.MixNext', WHERE WHAT IT READS IS OF BULK AT MOST 1048576: true; the input reads as it did. -/
def mixNextUptoRow : OpenClaim := { program := "ytmaflidkejapoaa", sum := "9113d1cfc3f32a25b8e1180c49a4071762019e7d4db250a388e24d2eb33826d2", func := "cullender/culkeep.MixNext", spec := "mixNext", apart := false, narrowed := true }
def MixNextUptoSaid : Prop := mixNextUptoRow.holds Try.pinned (OpenSpec.upto mixNextSpec)

/-- 'culkeep.HexaBack', WHERE WHAT IT READS IS OF BULK AT MOST 1048576: true; the input reads as it did. -/
def hexaBackUptoRow : OpenClaim := { program := "ytmaflidkejapoaa", sum := "9113d1cfc3f32a25b8e1180c49a4071762019e7d4db250a388e24d2eb33826d2", func := "cullender/culkeep.HexaBack", spec := "hexaBack", apart := false, narrowed := true }
def HexaBackUptoSaid : Prop := hexaBackUptoRow.holds Try.pinned (OpenSpec.upto hexaBackSpec)

/-- 'culkeep.MixText', WHERE WHAT IT READS IS OF BULK AT MOST 1048576: true; the input reads as it did. -/
def mixTextUptoRow : OpenClaim := { program := "ytmaflidkejapoaa", sum := "9113d1cfc3f32a25b8e1180c49a4071762019e7d4db250a388e24d2eb33826d2", func := "cullender/culkeep.MixText", spec := "mixText", apart := false, narrowed := true }
def MixTextUptoSaid : Prop := mixTextUptoRow.holds Try.pinned (OpenSpec.upto mixTextSpec)

/-- 'culkeep.HexaShort', WHERE WHAT IT READS IS OF BULK AT MOST 1048576: true; the input reads as it did. -/
def hexaShortUptoRow : OpenClaim := { program := "ytmaflidkejapoaa", sum := "9113d1cfc3f32a25b8e1180c49a4071762019e7d4db250a388e24d2eb33826d2", func := "cullender/culkeep.HexaShort", spec := "hexaShort", apart := false, narrowed := true }
def HexaShortUptoSaid : Prop := hexaShortUptoRow.holds Try.pinned (OpenSpec.upto hexaShortSpec)

end Rows
end Go.Proofs.Ytmaflidkejapoaa
