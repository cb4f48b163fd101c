/-
  DERIVED. GIVEN WITH THE SEED: THE CARDS: each row of YtanfkolcoaofdabDoorRows.lean that lists a variable, with what it lists TIED to the program's text (the seventh form; the later family's looks); each row that meets fmt, with fmt's text TOLD by the authors' own Lean function (tested against real Go, not proved from fmt's source: count such statements apart). THE CARD IS WHAT COUNTS. Prove the row's statement (the work); the ties are given (YtanfkolcoaofdabDoorTie.lean); close each card by the builder's one call (the guide's Derived/Test/ToyasCard.lean, 'card_holds'). Laid BY PROGRAM, IN A SANDBOX (cutbox-door.mjs). By AI agents, Wed Nov 11 2026. No macro, syntax, notation, axiom, sorry.
-/
import Derived.Test.YtanfkolcoaofdabDoorRows
import GoSem.ClaimSeven
namespace Go.Proofs.YtanfkolcoaofdabDoor
namespace Rows

/-- THE TIED CARD OF 'cultop.TopState'. -/
def topStateCard : Claim7 := { stood := { row := topStateRow, standIns := [], harness := (true, "44f6def2ae9f4f6af3c247f96e627c929e5d14f084f5fda3235ab5b20b646979"), looks := false }, kinds := [], alts := [], laidByText := true, laidKinds := [.data, .pinned], laidTests := true, laidLooks := .later }
def TopStateCardSaid : Prop := Claim7.holds Tryd.pinned (.plain (OpenSpec.ofChange topStateSpec)) topStateCard

/-- THE TIED CARD OF 'cullaw.StateSays'. -/
def stateSaysCard : Claim7 := { stood := { row := stateSaysRow, standIns := [], harness := (true, "44f6def2ae9f4f6af3c247f96e627c929e5d14f084f5fda3235ab5b20b646979"), looks := false }, kinds := [], alts := [], laidByText := true, laidKinds := [.data, .pinned], laidTests := true, laidLooks := .later }
def StateSaysCardSaid : Prop := Claim7.holds Tryd.pinned (.plain (OpenSpec.ofChange stateSaysSpec)) stateSaysCard

/-- THE TIED CARD OF 'cullaw.StateMarks'. -/
def stateMarksCard : Claim7 := { stood := { row := stateMarksRow, standIns := [], harness := (true, "44f6def2ae9f4f6af3c247f96e627c929e5d14f084f5fda3235ab5b20b646979"), looks := false }, kinds := [], alts := [], laidByText := true, laidKinds := [.data, .pinned], laidTests := true, laidLooks := .later }
def StateMarksCardSaid : Prop := Claim7.holds Tryd.pinned (.plain (OpenSpec.ofChange stateMarksSpec)) stateMarksCard

/-- THE TIED CARD OF 'culkeep.StateBack'. -/
def stateBackCard : Claim7 := { stood := { row := stateBackRow, standIns := [], harness := (true, "44f6def2ae9f4f6af3c247f96e627c929e5d14f084f5fda3235ab5b20b646979"), looks := false }, kinds := [], alts := [], laidByText := true, laidKinds := [.data, .pinned], laidTests := true, laidLooks := .later }
def StateBackCardSaid : Prop := Claim7.holds Tryd.pinned (.plain (OpenSpec.ofChange stateBackSpec)) stateBackCard

/-- THE SECOND FORM's CARD OF 'cultop.TopState'. -/
def topStateUptoCard : Claim7 := { stood := { row := topStateUptoRow, standIns := [], harness := (true, "44f6def2ae9f4f6af3c247f96e627c929e5d14f084f5fda3235ab5b20b646979"), looks := false }, kinds := [], alts := [], laidByText := true, laidKinds := [.data, .pinned], laidTests := true, laidLooks := .later }
def TopStateUptoCardSaid : Prop := Claim7.holds Tryd.pinned (.plain (OpenSpec.upto topStateSpec)) topStateUptoCard

/-- THE SECOND FORM's CARD OF 'cullaw.StateSays'. -/
def stateSaysUptoCard : Claim7 := { stood := { row := stateSaysUptoRow, standIns := [], harness := (true, "44f6def2ae9f4f6af3c247f96e627c929e5d14f084f5fda3235ab5b20b646979"), looks := false }, kinds := [], alts := [], laidByText := true, laidKinds := [.data, .pinned], laidTests := true, laidLooks := .later }
def StateSaysUptoCardSaid : Prop := Claim7.holds Tryd.pinned (.plain (OpenSpec.upto stateSaysSpec)) stateSaysUptoCard

/-- THE SECOND FORM's CARD OF 'cullaw.StateMarks'. -/
def stateMarksUptoCard : Claim7 := { stood := { row := stateMarksUptoRow, standIns := [], harness := (true, "44f6def2ae9f4f6af3c247f96e627c929e5d14f084f5fda3235ab5b20b646979"), looks := false }, kinds := [], alts := [], laidByText := true, laidKinds := [.data, .pinned], laidTests := true, laidLooks := .later }
def StateMarksUptoCardSaid : Prop := Claim7.holds Tryd.pinned (.plain (OpenSpec.upto stateMarksSpec)) stateMarksUptoCard

/-- THE SECOND FORM's CARD OF 'culkeep.StateBack'. -/
def stateBackUptoCard : Claim7 := { stood := { row := stateBackUptoRow, standIns := [], harness := (true, "44f6def2ae9f4f6af3c247f96e627c929e5d14f084f5fda3235ab5b20b646979"), looks := false }, kinds := [], alts := [], laidByText := true, laidKinds := [.data, .pinned], laidTests := true, laidLooks := .later }
def StateBackUptoCardSaid : Prop := Claim7.holds Tryd.pinned (.plain (OpenSpec.upto stateBackSpec)) stateBackUptoCard
end Rows
end Go.Proofs.YtanfkolcoaofdabDoor
