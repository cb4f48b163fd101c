/-
  No cell of these rows narrows 'for every input' (looked for: loops, veiled, ifaces, maps, wideKeys, modest, calm, conditions, laid).
  DERIVED. THE GIVEN ROWS OF THIS SEAT. 12 by the template 'for every input the law returns true; each argument reads behind the call as it read before'; 0 by the template 'total and deterministic' (their statements: YtanfkolcoaofdaaTotals.lean).
  GIVEN WITH THE SEED: the statements are not yours to turn. If you find one false, say at which input.
  Laid BY PROGRAM, IN A SANDBOX (cutbox-rows.mjs): the forced cells as the released guide's own fill.sh prints them over the translation ffbe74a4a8479478… (all of the seat's roots in one cut). By AI agents, Wed Nov 11 2026. No macro, syntax, notation, axiom, sorry.
-/
import Derived.Test.YtanfkolcoaofdaaChecked
import GoSem.Claim
import GoSem.ClaimJoined
import GoSem.ClaimMapViews
import Derived.JoinedTies
import Derived.KernelRfl
namespace Go.Proofs.Ytanfkolcoaofdaa
/- THE CELL 'sum', in the pinned program and in every row, IS THE sha256 OF THE DUMP (.gsa) THAT YtanfkolcoaofdaaProg.lean LOADS. Nothing in Lean hashes anything: it is a label: what it is worth is what the hold of that sum in a sandbox is worth. -/
noncomputable def Try.pinned : Pinned := { name := "ytanfkolcoaofdaa", sum := "ffbe74a4a8479478b28e6d56db733cc17255d12e2ee525c4476799cc927ad67c", checked := Try.checked }
namespace Rows
def none {H : Type} : Left H := { results := [], args := [] }

/-- 'cullaw.DigitSays': WHATEVER THE INPUT: true; the input reads as it did. -/
def digitSaysSpec : ChangeSpec := { name := "digitSays", fn := fun _ => fun
  | [d1, d2, d3] => { results := [.lit (.bool true)], args := [d1, d2, d3] }
  | _ => none }
def digitSaysRow : OpenClaim := { program := "ytanfkolcoaofdaa", sum := "ffbe74a4a8479478b28e6d56db733cc17255d12e2ee525c4476799cc927ad67c", func := "cullender/cullaw.DigitSays", spec := "digitSays", recurses := true, apart := false }
def DigitSaysSaid : Prop := digitSaysRow.holds Try.pinned (OpenSpec.ofChange digitSaysSpec)

/-- ITS FALSE NEIGHBOUR: 'it returns false'. Refute it at one input. -/
def digitSaysWrong : ChangeSpec := { name := "digitSays", fn := fun _ => fun
  | [d1, d2, d3] => { results := [.lit (.bool false)], args := [d1, d2, d3] }
  | _ => none }
def DigitSaysWrongFalsely : Prop := digitSaysRow.holds Try.pinned (OpenSpec.ofChange digitSaysWrong)

/-- 'cullaw.DigitDeals': WHATEVER THE INPUT: true; the input reads as it did. -/
def digitDealsSpec : ChangeSpec := { name := "digitDeals", fn := fun _ => fun
  | [d1, d2] => { results := [.lit (.bool true)], args := [d1, d2] }
  | _ => none }
def digitDealsRow : OpenClaim := { program := "ytanfkolcoaofdaa", sum := "ffbe74a4a8479478b28e6d56db733cc17255d12e2ee525c4476799cc927ad67c", func := "cullender/cullaw.DigitDeals", spec := "digitDeals", recurses := true, apart := false }
def DigitDealsSaid : Prop := digitDealsRow.holds Try.pinned (OpenSpec.ofChange digitDealsSpec)

/-- ITS FALSE NEIGHBOUR: 'it returns false'. Refute it at one input. -/
def digitDealsWrong : ChangeSpec := { name := "digitDeals", fn := fun _ => fun
  | [d1, d2] => { results := [.lit (.bool false)], args := [d1, d2] }
  | _ => none }
def DigitDealsWrongFalsely : Prop := digitDealsRow.holds Try.pinned (OpenSpec.ofChange digitDealsWrong)

/-- 'cullaw.CombSays': WHATEVER THE INPUT: true; the input reads as it did. -/
def combSaysSpec : ChangeSpec := { name := "combSays", fn := fun _ => fun
  | [d1, d2, d3, d4] => { results := [.lit (.bool true)], args := [d1, d2, d3, d4] }
  | _ => none }
def combSaysRow : OpenClaim := { program := "ytanfkolcoaofdaa", sum := "ffbe74a4a8479478b28e6d56db733cc17255d12e2ee525c4476799cc927ad67c", func := "cullender/cullaw.CombSays", spec := "combSays", recurses := true, apart := false }
def CombSaysSaid : Prop := combSaysRow.holds Try.pinned (OpenSpec.ofChange combSaysSpec)

/-- ITS FALSE NEIGHBOUR: 'it returns false'. Refute it at one input. -/
def combSaysWrong : ChangeSpec := { name := "combSays", fn := fun _ => fun
  | [d1, d2, d3, d4] => { results := [.lit (.bool false)], args := [d1, d2, d3, d4] }
  | _ => none }
def CombSaysWrongFalsely : Prop := combSaysRow.holds Try.pinned (OpenSpec.ofChange combSaysWrong)

/-- 'culkeep.DigitBack': WHATEVER THE INPUT: true; the input reads as it did. -/
def digitBackSpec : ChangeSpec := { name := "digitBack", fn := fun _ => fun
  | [d1, d2, d3, d4] => { results := [.lit (.bool true)], args := [d1, d2, d3, d4] }
  | _ => none }
def digitBackRow : OpenClaim := { program := "ytanfkolcoaofdaa", sum := "ffbe74a4a8479478b28e6d56db733cc17255d12e2ee525c4476799cc927ad67c", func := "cullender/culkeep.DigitBack", spec := "digitBack", recurses := true, apart := false }
def DigitBackSaid : Prop := digitBackRow.holds Try.pinned (OpenSpec.ofChange digitBackSpec)

/-- ITS FALSE NEIGHBOUR: 'it returns false'. Refute it at one input. -/
def digitBackWrong : ChangeSpec := { name := "digitBack", fn := fun _ => fun
  | [d1, d2, d3, d4] => { results := [.lit (.bool false)], args := [d1, d2, d3, d4] }
  | _ => none }
def DigitBackWrongFalsely : Prop := digitBackRow.holds Try.pinned (OpenSpec.ofChange digitBackWrong)

/-- 'culkeep.DealAll': WHATEVER THE INPUT: true; the input reads as it did. -/
def dealAllSpec : ChangeSpec := { name := "dealAll", fn := fun _ => fun
  | [d] => { results := [.lit (.bool true)], args := [d] }
  | _ => none }
def dealAllRow : OpenClaim := { program := "ytanfkolcoaofdaa", sum := "ffbe74a4a8479478b28e6d56db733cc17255d12e2ee525c4476799cc927ad67c", func := "cullender/culkeep.DealAll", spec := "dealAll", unfollowed := true, recurses := true, apart := false }
def DealAllSaid : Prop := dealAllRow.holds Try.pinned (OpenSpec.ofChange dealAllSpec)

/-- ITS FALSE NEIGHBOUR: 'it returns false'. Refute it at one input. -/
def dealAllWrong : ChangeSpec := { name := "dealAll", fn := fun _ => fun
  | [d] => { results := [.lit (.bool false)], args := [d] }
  | _ => none }
def DealAllWrongFalsely : Prop := dealAllRow.holds Try.pinned (OpenSpec.ofChange dealAllWrong)

/-- 'culkeep.DealSame': WHATEVER THE INPUT: true; the input reads as it did. -/
def dealSameSpec : ChangeSpec := { name := "dealSame", fn := fun _ => fun
  | [d1, d2] => { results := [.lit (.bool true)], args := [d1, d2] }
  | _ => none }
def dealSameRow : OpenClaim := { program := "ytanfkolcoaofdaa", sum := "ffbe74a4a8479478b28e6d56db733cc17255d12e2ee525c4476799cc927ad67c", func := "cullender/culkeep.DealSame", spec := "dealSame", apart := false }
def DealSameSaid : Prop := dealSameRow.holds Try.pinned (OpenSpec.ofChange dealSameSpec)

/-- ITS FALSE NEIGHBOUR: 'it returns false'. Refute it at one input. -/
def dealSameWrong : ChangeSpec := { name := "dealSame", fn := fun _ => fun
  | [d1, d2] => { results := [.lit (.bool false)], args := [d1, d2] }
  | _ => none }
def DealSameWrongFalsely : Prop := dealSameRow.holds Try.pinned (OpenSpec.ofChange dealSameWrong)

/-- 'culkeep.CombPascal': WHATEVER THE INPUT: true; the input reads as it did. -/
def combPascalSpec : ChangeSpec := { name := "combPascal", fn := fun _ => fun
  | [d1, d2, d3] => { results := [.lit (.bool true)], args := [d1, d2, d3] }
  | _ => none }
def combPascalRow : OpenClaim := { program := "ytanfkolcoaofdaa", sum := "ffbe74a4a8479478b28e6d56db733cc17255d12e2ee525c4476799cc927ad67c", func := "cullender/culkeep.CombPascal", spec := "combPascal", unfollowed := true, recurses := true, apart := false }
def CombPascalSaid : Prop := combPascalRow.holds Try.pinned (OpenSpec.ofChange combPascalSpec)

/-- ITS FALSE NEIGHBOUR: 'it returns false'. Refute it at one input. -/
def combPascalWrong : ChangeSpec := { name := "combPascal", fn := fun _ => fun
  | [d1, d2, d3] => { results := [.lit (.bool false)], args := [d1, d2, d3] }
  | _ => none }
def CombPascalWrongFalsely : Prop := combPascalRow.holds Try.pinned (OpenSpec.ofChange combPascalWrong)

/-- 'culkeep.CombBack': WHATEVER THE INPUT: true; the input reads as it did. -/
def combBackSpec : ChangeSpec := { name := "combBack", fn := fun _ => fun
  | [d1, d2, d3] => { results := [.lit (.bool true)], args := [d1, d2, d3] }
  | _ => none }
def combBackRow : OpenClaim := { program := "ytanfkolcoaofdaa", sum := "ffbe74a4a8479478b28e6d56db733cc17255d12e2ee525c4476799cc927ad67c", func := "cullender/culkeep.CombBack", spec := "combBack", apart := false }
def CombBackSaid : Prop := combBackRow.holds Try.pinned (OpenSpec.ofChange combBackSpec)

/-- ITS FALSE NEIGHBOUR: 'it returns false'. Refute it at one input. -/
def combBackWrong : ChangeSpec := { name := "combBack", fn := fun _ => fun
  | [d1, d2, d3] => { results := [.lit (.bool false)], args := [d1, d2, d3] }
  | _ => none }
def CombBackWrongFalsely : Prop := combBackRow.holds Try.pinned (OpenSpec.ofChange combBackWrong)

/-- 'culkeep.CombFirst': WHATEVER THE INPUT: true; the input reads as it did. -/
def combFirstSpec : ChangeSpec := { name := "combFirst", fn := fun _ => fun
  | [d1, d2, d3] => { results := [.lit (.bool true)], args := [d1, d2, d3] }
  | _ => none }
def combFirstRow : OpenClaim := { program := "ytanfkolcoaofdaa", sum := "ffbe74a4a8479478b28e6d56db733cc17255d12e2ee525c4476799cc927ad67c", func := "cullender/culkeep.CombFirst", spec := "combFirst", apart := false }
def CombFirstSaid : Prop := combFirstRow.holds Try.pinned (OpenSpec.ofChange combFirstSpec)

/-- ITS FALSE NEIGHBOUR: 'it returns false'. Refute it at one input. -/
def combFirstWrong : ChangeSpec := { name := "combFirst", fn := fun _ => fun
  | [d1, d2, d3] => { results := [.lit (.bool false)], args := [d1, d2, d3] }
  | _ => none }
def CombFirstWrongFalsely : Prop := combFirstRow.holds Try.pinned (OpenSpec.ofChange combFirstWrong)

/-- 'culkeep.DigitTurned': WHATEVER THE INPUT: true; the input reads as it did. -/
def digitTurnedSpec : ChangeSpec := { name := "digitTurned", fn := fun _ => fun
  | [d1, d2] => { results := [.lit (.bool true)], args := [d1, d2] }
  | _ => none }
def digitTurnedRow : OpenClaim := { program := "ytanfkolcoaofdaa", sum := "ffbe74a4a8479478b28e6d56db733cc17255d12e2ee525c4476799cc927ad67c", func := "cullender/culkeep.DigitTurned", spec := "digitTurned", recurses := true, apart := false }
def DigitTurnedSaid : Prop := digitTurnedRow.holds Try.pinned (OpenSpec.ofChange digitTurnedSpec)

/-- ITS FALSE NEIGHBOUR: 'it returns false'. Refute it at one input. -/
def digitTurnedWrong : ChangeSpec := { name := "digitTurned", fn := fun _ => fun
  | [d1, d2] => { results := [.lit (.bool false)], args := [d1, d2] }
  | _ => none }
def DigitTurnedWrongFalsely : Prop := digitTurnedRow.holds Try.pinned (OpenSpec.ofChange digitTurnedWrong)

/-- 'culkeep.DigitFirst': WHATEVER THE INPUT: true; the input reads as it did. -/
def digitFirstSpec : ChangeSpec := { name := "digitFirst", fn := fun _ => fun
  | [d1, d2] => { results := [.lit (.bool true)], args := [d1, d2] }
  | _ => none }
def digitFirstRow : OpenClaim := { program := "ytanfkolcoaofdaa", sum := "ffbe74a4a8479478b28e6d56db733cc17255d12e2ee525c4476799cc927ad67c", func := "cullender/culkeep.DigitFirst", spec := "digitFirst", recurses := true, apart := false }
def DigitFirstSaid : Prop := digitFirstRow.holds Try.pinned (OpenSpec.ofChange digitFirstSpec)

/-- ITS FALSE NEIGHBOUR: 'it returns false'. Refute it at one input. -/
def digitFirstWrong : ChangeSpec := { name := "digitFirst", fn := fun _ => fun
  | [d1, d2] => { results := [.lit (.bool false)], args := [d1, d2] }
  | _ => none }
def DigitFirstWrongFalsely : Prop := digitFirstRow.holds Try.pinned (OpenSpec.ofChange digitFirstWrong)

/-- 'culkeep.DealTwo': WHATEVER THE INPUT: true; the input reads as it did. -/
def dealTwoSpec : ChangeSpec := { name := "dealTwo", fn := fun _ => fun
  | [d1, d2, d3, d4] => { results := [.lit (.bool true)], args := [d1, d2, d3, d4] }
  | _ => none }
def dealTwoRow : OpenClaim := { program := "ytanfkolcoaofdaa", sum := "ffbe74a4a8479478b28e6d56db733cc17255d12e2ee525c4476799cc927ad67c", func := "cullender/culkeep.DealTwo", spec := "dealTwo", apart := false }
def DealTwoSaid : Prop := dealTwoRow.holds Try.pinned (OpenSpec.ofChange dealTwoSpec)

/-- ITS FALSE NEIGHBOUR: 'it returns false'. Refute it at one input. -/
def dealTwoWrong : ChangeSpec := { name := "dealTwo", fn := fun _ => fun
  | [d1, d2, d3, d4] => { results := [.lit (.bool false)], args := [d1, d2, d3, d4] }
  | _ => none }
def DealTwoWrongFalsely : Prop := dealTwoRow.holds Try.pinned (OpenSpec.ofChange dealTwoWrong)

/- THE SECOND FORM. 'bulk': how many values and letters a reading holds, each counted each time it is reached (what is shared counts as often as it is met; a slice's spare places count too). A statement '..UptoSaid' is the law's where the arguments, and the package variables that the reading takes, are together of bulk at most 1048576: NARROWER than '..Said'. Prove '..Said' where nothing that the law and all that it calls make is longer than what came in: it says more and counts as full. Else prove '..UptoSaid'. A law counts once. -/
mutual
def uptoBulk {H : Type} : DataW H → Nat
  | .lit (.string bytes) => bytes.length + 1
  | .lit _ => 1
  | .nil => 1
  | .ptr d => uptoBulk d + 1
  | .slice elems spare => uptoBulkAll elems + uptoBulkAll spare + 1
  | .agg parts => uptoBulkAll parts + 1
  | .iface _ d => uptoBulk d + 1
  | .map entries => uptoBulkEntries entries + 1
  | .held _ => 1
def uptoBulkAll {H : Type} : List (DataW H) → Nat
  | [] => 0
  | d :: r => uptoBulk d + uptoBulkAll r
def uptoBulkEntries {H : Type} : List (Lit × DataW H) → Nat
  | [] => 0
  | x :: r => uptoBulkEntry x + uptoBulkEntries r
def uptoBulkEntry {H : Type} : Lit × DataW H → Nat
  | (.string bytes, d) => bytes.length + uptoBulk d + 1
  | (_, d) => uptoBulk d + 1
 end
def uptoSmall : (H : Type) → List (DataW H) → Bool := fun _ ds => decide (uptoBulkAll ds ≤ 1048576)
def OpenSpec.upto (s : _root_.Go.ChangeSpec) : _root_.Go.OpenSpec := { _root_.Go.OpenSpec.ofChange s with cond := some uptoSmall }

/-- 'cullaw.DigitSays', WHERE WHAT IT READS IS OF BULK AT MOST 1048576: true; the input reads as it did. -/
def digitSaysUptoRow : OpenClaim := { program := "ytanfkolcoaofdaa", sum := "ffbe74a4a8479478b28e6d56db733cc17255d12e2ee525c4476799cc927ad67c", func := "cullender/cullaw.DigitSays", spec := "digitSays", recurses := true, apart := false, narrowed := true }
def DigitSaysUptoSaid : Prop := digitSaysUptoRow.holds Try.pinned (OpenSpec.upto digitSaysSpec)

/-- 'cullaw.DigitDeals', WHERE WHAT IT READS IS OF BULK AT MOST 1048576: true; the input reads as it did. -/
def digitDealsUptoRow : OpenClaim := { program := "ytanfkolcoaofdaa", sum := "ffbe74a4a8479478b28e6d56db733cc17255d12e2ee525c4476799cc927ad67c", func := "cullender/cullaw.DigitDeals", spec := "digitDeals", recurses := true, apart := false, narrowed := true }
def DigitDealsUptoSaid : Prop := digitDealsUptoRow.holds Try.pinned (OpenSpec.upto digitDealsSpec)

/-- 'cullaw.CombSays', WHERE WHAT IT READS IS OF BULK AT MOST 1048576: true; the input reads as it did. -/
def combSaysUptoRow : OpenClaim := { program := "ytanfkolcoaofdaa", sum := "ffbe74a4a8479478b28e6d56db733cc17255d12e2ee525c4476799cc927ad67c", func := "cullender/cullaw.CombSays", spec := "combSays", recurses := true, apart := false, narrowed := true }
def CombSaysUptoSaid : Prop := combSaysUptoRow.holds Try.pinned (OpenSpec.upto combSaysSpec)

/-- 'culkeep.DigitBack', WHERE WHAT IT READS IS OF BULK AT MOST 1048576: true; the input reads as it did. -/
def digitBackUptoRow : OpenClaim := { program := "ytanfkolcoaofdaa", sum := "ffbe74a4a8479478b28e6d56db733cc17255d12e2ee525c4476799cc927ad67c", func := "cullender/culkeep.DigitBack", spec := "digitBack", recurses := true, apart := false, narrowed := true }
def DigitBackUptoSaid : Prop := digitBackUptoRow.holds Try.pinned (OpenSpec.upto digitBackSpec)

/-- 'culkeep.DealAll', WHERE WHAT IT READS IS OF BULK AT MOST 1048576: true; the input reads as it did. -/
def dealAllUptoRow : OpenClaim := { program := "ytanfkolcoaofdaa", sum := "ffbe74a4a8479478b28e6d56db733cc17255d12e2ee525c4476799cc927ad67c", func := "cullender/culkeep.DealAll", spec := "dealAll", unfollowed := true, recurses := true, apart := false, narrowed := true }
def DealAllUptoSaid : Prop := dealAllUptoRow.holds Try.pinned (OpenSpec.upto dealAllSpec)

/-- 'culkeep.DealSame', WHERE WHAT IT READS IS OF BULK AT MOST 1048576: true; the input reads as it did. -/
def dealSameUptoRow : OpenClaim := { program := "ytanfkolcoaofdaa", sum := "ffbe74a4a8479478b28e6d56db733cc17255d12e2ee525c4476799cc927ad67c", func := "cullender/culkeep.DealSame", spec := "dealSame", apart := false, narrowed := true }
def DealSameUptoSaid : Prop := dealSameUptoRow.holds Try.pinned (OpenSpec.upto dealSameSpec)

/-- 'culkeep.CombPascal', WHERE WHAT IT READS IS OF BULK AT MOST 1048576: true; the input reads as it did. -/
def combPascalUptoRow : OpenClaim := { program := "ytanfkolcoaofdaa", sum := "ffbe74a4a8479478b28e6d56db733cc17255d12e2ee525c4476799cc927ad67c", func := "cullender/culkeep.CombPascal", spec := "combPascal", unfollowed := true, recurses := true, apart := false, narrowed := true }
def CombPascalUptoSaid : Prop := combPascalUptoRow.holds Try.pinned (OpenSpec.upto combPascalSpec)

/-- 'culkeep.CombBack', WHERE WHAT IT READS IS OF BULK AT MOST 1048576: true; the input reads as it did. -/
def combBackUptoRow : OpenClaim := { program := "ytanfkolcoaofdaa", sum := "ffbe74a4a8479478b28e6d56db733cc17255d12e2ee525c4476799cc927ad67c", func := "cullender/culkeep.CombBack", spec := "combBack", apart := false, narrowed := true }
def CombBackUptoSaid : Prop := combBackUptoRow.holds Try.pinned (OpenSpec.upto combBackSpec)

/-- 'culkeep.CombFirst', WHERE WHAT IT READS IS OF BULK AT MOST 1048576: true; the input reads as it did. -/
def combFirstUptoRow : OpenClaim := { program := "ytanfkolcoaofdaa", sum := "ffbe74a4a8479478b28e6d56db733cc17255d12e2ee525c4476799cc927ad67c", func := "cullender/culkeep.CombFirst", spec := "combFirst", apart := false, narrowed := true }
def CombFirstUptoSaid : Prop := combFirstUptoRow.holds Try.pinned (OpenSpec.upto combFirstSpec)

/-- 'culkeep.DigitTurned', WHERE WHAT IT READS IS OF BULK AT MOST 1048576: true; the input reads as it did. -/
def digitTurnedUptoRow : OpenClaim := { program := "ytanfkolcoaofdaa", sum := "ffbe74a4a8479478b28e6d56db733cc17255d12e2ee525c4476799cc927ad67c", func := "cullender/culkeep.DigitTurned", spec := "digitTurned", recurses := true, apart := false, narrowed := true }
def DigitTurnedUptoSaid : Prop := digitTurnedUptoRow.holds Try.pinned (OpenSpec.upto digitTurnedSpec)

/-- 'culkeep.DigitFirst', WHERE WHAT IT READS IS OF BULK AT MOST 1048576: true; the input reads as it did. -/
def digitFirstUptoRow : OpenClaim := { program := "ytanfkolcoaofdaa", sum := "ffbe74a4a8479478b28e6d56db733cc17255d12e2ee525c4476799cc927ad67c", func := "cullender/culkeep.DigitFirst", spec := "digitFirst", recurses := true, apart := false, narrowed := true }
def DigitFirstUptoSaid : Prop := digitFirstUptoRow.holds Try.pinned (OpenSpec.upto digitFirstSpec)

/-- 'culkeep.DealTwo', WHERE WHAT IT READS IS OF BULK AT MOST 1048576: true; the input reads as it did. -/
def dealTwoUptoRow : OpenClaim := { program := "ytanfkolcoaofdaa", sum := "ffbe74a4a8479478b28e6d56db733cc17255d12e2ee525c4476799cc927ad67c", func := "cullender/culkeep.DealTwo", spec := "dealTwo", apart := false, narrowed := true }
def DealTwoUptoSaid : Prop := dealTwoUptoRow.holds Try.pinned (OpenSpec.upto dealTwoSpec)

end Rows
end Go.Proofs.Ytanfkolcoaofdaa
