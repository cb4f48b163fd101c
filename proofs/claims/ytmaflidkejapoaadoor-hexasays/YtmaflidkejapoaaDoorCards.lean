/-
  DERIVED. GIVEN WITH THE SEED: THE CARDS: each row of YtmaflidkejapoaaDoorRows.lean that lists a variable, with what it lists TIED to the program's text (the seventh form; the later family's looks); each row that meets fmt, with fmt's text TOLD by the authors' own Lean function (tested against real Go, not proved from fmt's source: count such statements apart). THE CARD IS WHAT COUNTS. Prove the row's statement (the work); the ties are given (YtmaflidkejapoaaDoorTie.lean); close each card by the builder's one call (the guide's Derived/Test/ToyasCard.lean, 'card_holds'). Laid BY PROGRAM, IN A SANDBOX (cutbox-door.mjs). By AI agents, Wed Nov 11 2026. No macro, syntax, notation, axiom, sorry.
-/
import Derived.Test.YtmaflidkejapoaaDoorRows
import GoSem.ClaimSeven
namespace Go.Proofs.YtmaflidkejapoaaDoor
namespace Rows

/-- THE TIED CARD OF 'cullaw.HexaSays'. -/
def hexaSaysCard : Claim7 := { stood := { row := hexaSaysRow, standIns := [], harness := (true, "991ae15b0457c2a3672386e13e66caff62ba988c0b0e90b4d84bc5f5357a1844"), looks := false }, kinds := [], alts := [], laidByText := true, laidKinds := [.data, .pinned], laidTests := true, laidLooks := .later }
def HexaSaysCardSaid : Prop := Claim7.holds Tryd.pinned (.plain (OpenSpec.ofChange hexaSaysSpec)) hexaSaysCard

/-- THE SECOND FORM's CARD OF 'cullaw.HexaSays'. -/
def hexaSaysUptoCard : Claim7 := { stood := { row := hexaSaysUptoRow, standIns := [], harness := (true, "991ae15b0457c2a3672386e13e66caff62ba988c0b0e90b4d84bc5f5357a1844"), looks := false }, kinds := [], alts := [], laidByText := true, laidKinds := [.data, .pinned], laidTests := true, laidLooks := .later }
def HexaSaysUptoCardSaid : Prop := Claim7.holds Tryd.pinned (.plain (OpenSpec.upto hexaSaysSpec)) hexaSaysUptoCard
end Rows
end Go.Proofs.YtmaflidkejapoaaDoor
