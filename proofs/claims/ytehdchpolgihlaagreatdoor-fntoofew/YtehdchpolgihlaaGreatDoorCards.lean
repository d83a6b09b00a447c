/-
  DERIVED. GIVEN WITH THE SEED: THE CARDS: each row of YtehdchpolgihlaaGreatDoorRows.lean that lists a variable, with what it lists TIED to the program's text (the seventh form; the later family's looks); each row that meets fmt, with fmt's text TOLD by the authors' own Lean function (tested against real Go, not proved from fmt's source: count such statements apart). THE CARD IS WHAT COUNTS. Prove the row's statement (the work); the ties are given (YtehdchpolgihlaaGreatDoorTie.lean); close each card by the builder's one call (the guide's Derived/Test/ToyasCard.lean, 'card_holds'). Laid BY PROGRAM, IN A SANDBOX (cutbox-door.mjs). By AI agents, Wed Nov 11 2026. No macro, syntax, notation, axiom, sorry.
-/
import Derived.Test.YtehdchpolgihlaaGreatDoorRows
import GoSem.ClaimSeven
namespace Go.Proofs.YtehdchpolgihlaaGreatDoor
namespace Rows

/-- THE TIED CARD OF 'laws.FnParts'. -/
def fnPartsCard : Claim7 := { stood := { row := fnPartsRow, standIns := [], harness := (true, "23ed57f34342ffe5e685cf0ef912dcb0fd0ced8d1f9dbbf75deb1c8f31b945d3"), looks := true }, kinds := [], alts := [], laidByText := true, laidKinds := [.data, .data, .data, .sentinel, .sentinel, .sentinel, .sentinel], laidTests := true, laidLooks := .later }
def FnPartsCardSaid : Prop := Claim7.holds Tryz.pinned (.plain (OpenSpec.ofChange fnPartsSpec)) fnPartsCard

/-- THE TIED CARD OF 'laws.FnTooFew'. -/
def fnTooFewCard : Claim7 := { stood := { row := fnTooFewRow, standIns := [], harness := (true, "23ed57f34342ffe5e685cf0ef912dcb0fd0ced8d1f9dbbf75deb1c8f31b945d3"), looks := true }, kinds := [], alts := [], laidByText := true, laidKinds := [.data, .data, .data, .sentinel, .sentinel, .sentinel], laidTests := true, laidLooks := .later }
def FnTooFewCardSaid : Prop := Claim7.holds Tryz.pinned (.plain (OpenSpec.ofChange fnTooFewSpec)) fnTooFewCard

/-- THE TIED CARD OF 'laws.FnExactPartQc'. -/
def fnExactPartQcCard : Claim7 := { stood := { row := fnExactPartQcRow, standIns := [], harness := (true, "23ed57f34342ffe5e685cf0ef912dcb0fd0ced8d1f9dbbf75deb1c8f31b945d3"), looks := true }, kinds := [], alts := [], laidByText := true, laidKinds := [.data, .data, .data, .sentinel, .sentinel, .sentinel], laidTests := true, laidLooks := .later }
def FnExactPartQcCardSaid : Prop := Claim7.holds Tryz.pinned (.plain (OpenSpec.ofChange fnExactPartQcSpec)) fnExactPartQcCard

/-- THE TIED CARD OF 'laws.FnExactTableOk'. -/
def fnExactTableOkCard : Claim7 := { stood := { row := fnExactTableOkRow, standIns := [], harness := (true, "23ed57f34342ffe5e685cf0ef912dcb0fd0ced8d1f9dbbf75deb1c8f31b945d3"), looks := true }, kinds := [], alts := [], laidByText := true, laidKinds := [.data, .data, .data, .sentinel, .sentinel, .sentinel], laidTests := true, laidLooks := .later }
def FnExactTableOkCardSaid : Prop := Claim7.holds Tryz.pinned (.plain (OpenSpec.ofChange fnExactTableOkSpec)) fnExactTableOkCard

/-- THE TIED CARD OF 'laws.FnExactTableAdd'. -/
def fnExactTableAddCard : Claim7 := { stood := { row := fnExactTableAddRow, standIns := [], harness := (true, "23ed57f34342ffe5e685cf0ef912dcb0fd0ced8d1f9dbbf75deb1c8f31b945d3"), looks := true }, kinds := [], alts := [], laidByText := true, laidKinds := [.data, .data, .data, .sentinel, .sentinel, .sentinel, .sentinel], laidTests := true, laidLooks := .later }
def FnExactTableAddCardSaid : Prop := Claim7.holds Tryz.pinned (.plain (OpenSpec.ofChange fnExactTableAddSpec)) fnExactTableAddCard

/-- THE SECOND FORM's CARD OF 'laws.FnParts'. -/
def fnPartsUptoCard : Claim7 := { stood := { row := fnPartsUptoRow, standIns := [], harness := (true, "23ed57f34342ffe5e685cf0ef912dcb0fd0ced8d1f9dbbf75deb1c8f31b945d3"), looks := true }, kinds := [], alts := [], laidByText := true, laidKinds := [.data, .data, .data, .sentinel, .sentinel, .sentinel, .sentinel], laidTests := true, laidLooks := .later }
def FnPartsUptoCardSaid : Prop := Claim7.holds Tryz.pinned (.plain (OpenSpec.upto fnPartsSpec)) fnPartsUptoCard

/-- THE SECOND FORM's CARD OF 'laws.FnTooFew'. -/
def fnTooFewUptoCard : Claim7 := { stood := { row := fnTooFewUptoRow, standIns := [], harness := (true, "23ed57f34342ffe5e685cf0ef912dcb0fd0ced8d1f9dbbf75deb1c8f31b945d3"), looks := true }, kinds := [], alts := [], laidByText := true, laidKinds := [.data, .data, .data, .sentinel, .sentinel, .sentinel], laidTests := true, laidLooks := .later }
def FnTooFewUptoCardSaid : Prop := Claim7.holds Tryz.pinned (.plain (OpenSpec.upto fnTooFewSpec)) fnTooFewUptoCard

/-- THE SECOND FORM's CARD OF 'laws.FnExactPartQc'. -/
def fnExactPartQcUptoCard : Claim7 := { stood := { row := fnExactPartQcUptoRow, standIns := [], harness := (true, "23ed57f34342ffe5e685cf0ef912dcb0fd0ced8d1f9dbbf75deb1c8f31b945d3"), looks := true }, kinds := [], alts := [], laidByText := true, laidKinds := [.data, .data, .data, .sentinel, .sentinel, .sentinel], laidTests := true, laidLooks := .later }
def FnExactPartQcUptoCardSaid : Prop := Claim7.holds Tryz.pinned (.plain (OpenSpec.upto fnExactPartQcSpec)) fnExactPartQcUptoCard

/-- THE SECOND FORM's CARD OF 'laws.FnExactTableOk'. -/
def fnExactTableOkUptoCard : Claim7 := { stood := { row := fnExactTableOkUptoRow, standIns := [], harness := (true, "23ed57f34342ffe5e685cf0ef912dcb0fd0ced8d1f9dbbf75deb1c8f31b945d3"), looks := true }, kinds := [], alts := [], laidByText := true, laidKinds := [.data, .data, .data, .sentinel, .sentinel, .sentinel], laidTests := true, laidLooks := .later }
def FnExactTableOkUptoCardSaid : Prop := Claim7.holds Tryz.pinned (.plain (OpenSpec.upto fnExactTableOkSpec)) fnExactTableOkUptoCard

/-- THE SECOND FORM's CARD OF 'laws.FnExactTableAdd'. -/
def fnExactTableAddUptoCard : Claim7 := { stood := { row := fnExactTableAddUptoRow, standIns := [], harness := (true, "23ed57f34342ffe5e685cf0ef912dcb0fd0ced8d1f9dbbf75deb1c8f31b945d3"), looks := true }, kinds := [], alts := [], laidByText := true, laidKinds := [.data, .data, .data, .sentinel, .sentinel, .sentinel, .sentinel], laidTests := true, laidLooks := .later }
def FnExactTableAddUptoCardSaid : Prop := Claim7.holds Tryz.pinned (.plain (OpenSpec.upto fnExactTableAddSpec)) fnExactTableAddUptoCard
end Rows
end Go.Proofs.YtehdchpolgihlaaGreatDoor
