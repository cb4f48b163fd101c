/-
  DERIVED. GIVEN WITH THE SEED: THE CARDS: each row of YtfocmnjkoominaaDoorRows.lean that lists a variable, with what it lists TIED to the program's text (the seventh form; the later family's looks); each row that meets fmt, with fmt's text TOLD by the authors' own Lean function (tested against real Go, not proved from fmt's source: count such statements apart). THE CARD IS WHAT COUNTS. Prove the row's statement (the work); the ties are given (YtfocmnjkoominaaDoorTie.lean); close each card by the builder's one call (the guide's Derived/Test/ToyasCard.lean, 'card_holds'). Laid BY PROGRAM, IN A SANDBOX (cutbox-door.mjs). By AI agents, Wed Nov 11 2026. No macro, syntax, notation, axiom, sorry.
-/
import Derived.Test.YtfocmnjkoominaaDoorRows
import GoSem.ClaimSeven
namespace Go.Proofs.YtfocmnjkoominaaDoor
namespace Rows

/-- THE TIED CARD OF 'cullaw.StateMarks'. -/
def stateMarksCard : Claim7 := { stood := { row := stateMarksRow, standIns := [], harness := (true, "ec2426379eea46c592f858e48f683300d9d82a2852f36f007779fe8d321cb3ad"), looks := false }, kinds := [], alts := [], laidByText := true, laidKinds := [.data, .pinned], laidTests := true, laidLooks := .later }
def StateMarksCardSaid : Prop := Claim7.holds Tryd.pinned (.plain (OpenSpec.ofChange stateMarksSpec)) stateMarksCard

/-- THE SECOND FORM's CARD OF 'cullaw.StateMarks'. -/
def stateMarksUptoCard : Claim7 := { stood := { row := stateMarksUptoRow, standIns := [], harness := (true, "ec2426379eea46c592f858e48f683300d9d82a2852f36f007779fe8d321cb3ad"), looks := false }, kinds := [], alts := [], laidByText := true, laidKinds := [.data, .pinned], laidTests := true, laidLooks := .later }
def StateMarksUptoCardSaid : Prop := Claim7.holds Tryd.pinned (.plain (OpenSpec.upto stateMarksSpec)) stateMarksUptoCard
end Rows
end Go.Proofs.YtfocmnjkoominaaDoor
