/-
  DERIVED. GIVEN WITH THE SEED: THE CARDS: each row of YtndpjhiidmdlhaaGreatDoorRows.lean that lists a variable, with what it lists TIED to the program's text (the seventh form; the later family's looks); each row that meets fmt, with fmt's text TOLD by the authors' own Lean function (tested against real Go, not proved from fmt's source: count such statements apart). THE CARD IS WHAT COUNTS. Prove the row's statement (the work); the ties are given (YtndpjhiidmdlhaaGreatDoorTie.lean); close each card by the builder's one call (the guide's Derived/Test/ToyasCard.lean, 'card_holds'). Laid BY PROGRAM, IN A SANDBOX (cutbox-door.mjs). By AI agents, Wed Nov 11 2026. No macro, syntax, notation, axiom, sorry.
-/
import Derived.Test.YtndpjhiidmdlhaaGreatDoorRows
import GoSem.ClaimSeven
namespace Go.Proofs.YtndpjhiidmdlhaaGreatDoor
namespace Rows

/-- THE TIED CARD OF 'laws.FnExactRepOk'. -/
def fnExactRepOkCard : Claim7 := { stood := { row := fnExactRepOkRow, standIns := [], harness := (true, "7cce737489453e43b49ca7b3e7bc6e8817d3e523b69091c7335cfee9125b3a09"), looks := true }, kinds := [], alts := [], laidByText := true, laidKinds := [.data, .data, .data, .sentinel, .sentinel, .sentinel], laidTests := true, laidLooks := .later }
def FnExactRepOkCardSaid : Prop := Claim7.holds Tryz.pinned (.plain (OpenSpec.ofChange fnExactRepOkSpec)) fnExactRepOkCard

/-- THE TIED CARD OF 'laws.FnExactRepNew'. -/
def fnExactRepNewCard : Claim7 := { stood := { row := fnExactRepNewRow, standIns := [], harness := (true, "7cce737489453e43b49ca7b3e7bc6e8817d3e523b69091c7335cfee9125b3a09"), looks := true }, kinds := [], alts := [], laidByText := true, laidKinds := [.data, .data, .data, .sentinel, .sentinel, .sentinel], laidTests := true, laidLooks := .later }
def FnExactRepNewCardSaid : Prop := Claim7.holds Tryz.pinned (.plain (OpenSpec.ofChange fnExactRepNewSpec)) fnExactRepNewCard

/-- THE TIED CARD OF 'laws.FnExactKept'. -/
def fnExactKeptCard : Claim7 := { stood := { row := fnExactKeptRow, standIns := [], harness := (true, "7cce737489453e43b49ca7b3e7bc6e8817d3e523b69091c7335cfee9125b3a09"), looks := true }, kinds := [], alts := [], laidByText := true, laidKinds := [.data, .data, .data, .handle, .sentinel, .sentinel, .sentinel], laidTests := true, laidLooks := .later }
def FnExactKeptCardSaid : Prop := Claim7.holds Tryz.pinned (.plain (OpenSpec.ofChange fnExactKeptSpec)) fnExactKeptCard

/-- THE TIED CARD OF 'laws.FnExactRise'. -/
def fnExactRiseCard : Claim7 := { stood := { row := fnExactRiseRow, standIns := [], harness := (true, "7cce737489453e43b49ca7b3e7bc6e8817d3e523b69091c7335cfee9125b3a09"), looks := true }, kinds := [], alts := [], laidByText := true, laidKinds := [.data, .data, .data, .handle, .sentinel, .sentinel, .sentinel], laidTests := true, laidLooks := .later }
def FnExactRiseCardSaid : Prop := Claim7.holds Tryz.pinned (.plain (OpenSpec.ofChange fnExactRiseSpec)) fnExactRiseCard

/-- THE TIED CARD OF 'laws.FnExactState'. -/
def fnExactStateCard : Claim7 := { stood := { row := fnExactStateRow, standIns := [], harness := (true, "7cce737489453e43b49ca7b3e7bc6e8817d3e523b69091c7335cfee9125b3a09"), looks := true }, kinds := [], alts := [], laidByText := true, laidKinds := [.data, .data, .data, .sentinel, .sentinel, .sentinel], laidTests := true, laidLooks := .later }
def FnExactStateCardSaid : Prop := Claim7.holds Tryz.pinned (.plain (OpenSpec.ofChange fnExactStateSpec)) fnExactStateCard

/-- THE TIED CARD OF 'laws.FnExactWrite'. -/
def fnExactWriteCard : Claim7 := { stood := { row := fnExactWriteRow, standIns := [], harness := (true, "7cce737489453e43b49ca7b3e7bc6e8817d3e523b69091c7335cfee9125b3a09"), looks := true }, kinds := [], alts := [], laidByText := true, laidKinds := [.data, .data, .data, .sentinel, .sentinel, .sentinel], laidTests := true, laidLooks := .later }
def FnExactWriteCardSaid : Prop := Claim7.holds Tryz.pinned (.plain (OpenSpec.ofChange fnExactWriteSpec)) fnExactWriteCard

/-- THE SECOND FORM's CARD OF 'laws.FnExactRepOk'. -/
def fnExactRepOkUptoCard : Claim7 := { stood := { row := fnExactRepOkUptoRow, standIns := [], harness := (true, "7cce737489453e43b49ca7b3e7bc6e8817d3e523b69091c7335cfee9125b3a09"), looks := true }, kinds := [], alts := [], laidByText := true, laidKinds := [.data, .data, .data, .sentinel, .sentinel, .sentinel], laidTests := true, laidLooks := .later }
def FnExactRepOkUptoCardSaid : Prop := Claim7.holds Tryz.pinned (.plain (OpenSpec.upto fnExactRepOkSpec)) fnExactRepOkUptoCard

/-- THE SECOND FORM's CARD OF 'laws.FnExactRepNew'. -/
def fnExactRepNewUptoCard : Claim7 := { stood := { row := fnExactRepNewUptoRow, standIns := [], harness := (true, "7cce737489453e43b49ca7b3e7bc6e8817d3e523b69091c7335cfee9125b3a09"), looks := true }, kinds := [], alts := [], laidByText := true, laidKinds := [.data, .data, .data, .sentinel, .sentinel, .sentinel], laidTests := true, laidLooks := .later }
def FnExactRepNewUptoCardSaid : Prop := Claim7.holds Tryz.pinned (.plain (OpenSpec.upto fnExactRepNewSpec)) fnExactRepNewUptoCard

/-- THE SECOND FORM's CARD OF 'laws.FnExactKept'. -/
def fnExactKeptUptoCard : Claim7 := { stood := { row := fnExactKeptUptoRow, standIns := [], harness := (true, "7cce737489453e43b49ca7b3e7bc6e8817d3e523b69091c7335cfee9125b3a09"), looks := true }, kinds := [], alts := [], laidByText := true, laidKinds := [.data, .data, .data, .handle, .sentinel, .sentinel, .sentinel], laidTests := true, laidLooks := .later }
def FnExactKeptUptoCardSaid : Prop := Claim7.holds Tryz.pinned (.plain (OpenSpec.upto fnExactKeptSpec)) fnExactKeptUptoCard

/-- THE SECOND FORM's CARD OF 'laws.FnExactRise'. -/
def fnExactRiseUptoCard : Claim7 := { stood := { row := fnExactRiseUptoRow, standIns := [], harness := (true, "7cce737489453e43b49ca7b3e7bc6e8817d3e523b69091c7335cfee9125b3a09"), looks := true }, kinds := [], alts := [], laidByText := true, laidKinds := [.data, .data, .data, .handle, .sentinel, .sentinel, .sentinel], laidTests := true, laidLooks := .later }
def FnExactRiseUptoCardSaid : Prop := Claim7.holds Tryz.pinned (.plain (OpenSpec.upto fnExactRiseSpec)) fnExactRiseUptoCard

/-- THE SECOND FORM's CARD OF 'laws.FnExactState'. -/
def fnExactStateUptoCard : Claim7 := { stood := { row := fnExactStateUptoRow, standIns := [], harness := (true, "7cce737489453e43b49ca7b3e7bc6e8817d3e523b69091c7335cfee9125b3a09"), looks := true }, kinds := [], alts := [], laidByText := true, laidKinds := [.data, .data, .data, .sentinel, .sentinel, .sentinel], laidTests := true, laidLooks := .later }
def FnExactStateUptoCardSaid : Prop := Claim7.holds Tryz.pinned (.plain (OpenSpec.upto fnExactStateSpec)) fnExactStateUptoCard

/-- THE SECOND FORM's CARD OF 'laws.FnExactWrite'. -/
def fnExactWriteUptoCard : Claim7 := { stood := { row := fnExactWriteUptoRow, standIns := [], harness := (true, "7cce737489453e43b49ca7b3e7bc6e8817d3e523b69091c7335cfee9125b3a09"), looks := true }, kinds := [], alts := [], laidByText := true, laidKinds := [.data, .data, .data, .sentinel, .sentinel, .sentinel], laidTests := true, laidLooks := .later }
def FnExactWriteUptoCardSaid : Prop := Claim7.holds Tryz.pinned (.plain (OpenSpec.upto fnExactWriteSpec)) fnExactWriteUptoCard
end Rows
end Go.Proofs.YtndpjhiidmdlhaaGreatDoor
