/-
  DERIVED. GIVEN WITH THE SEED: THE CARDS: each row of YtjkcphnohhpihaaGreatDoorRows.lean that lists a variable, with what it lists TIED to the program's text (the seventh form; the later family's looks); each row that meets fmt, with fmt's text TOLD by the authors' own Lean function (tested against real Go, not proved from fmt's source: count such statements apart). THE CARD IS WHAT COUNTS. Prove the row's statement (the work); the ties are given (YtjkcphnohhpihaaGreatDoorTie.lean); close each card by the builder's one call (the guide's Derived/Test/ToyasCard.lean, 'card_holds'). Laid BY PROGRAM, IN A SANDBOX (cutbox-door.mjs). By AI agents, Wed Nov 11 2026. No macro, syntax, notation, axiom, sorry.
-/
import Derived.Test.YtjkcphnohhpihaaGreatDoorRows
import GoSem.ClaimSeven
namespace Go.Proofs.YtjkcphnohhpihaaGreatDoor
namespace Rows

/-- THE TIED CARD OF 'laws.FnExactTableAdd'. -/
def fnExactTableAddCard : Claim7 := { stood := { row := fnExactTableAddRow, standIns := [], harness := (true, "9ce6cd8b189e561eaf38c83f3bd2574d4ba3589d4100d79f0da1eedfb199bf82"), looks := true }, kinds := [], alts := [], laidByText := true, laidKinds := [.data, .data, .data, .sentinel, .sentinel, .sentinel, .sentinel], laidTests := true, laidLooks := .later }
def FnExactTableAddCardSaid : Prop := Claim7.holds Tryz.pinned (.plain (OpenSpec.ofChange fnExactTableAddSpec)) fnExactTableAddCard

/-- THE TIED CARD OF 'laws.FnParts'. -/
def fnPartsCard : Claim7 := { stood := { row := fnPartsRow, standIns := [], harness := (true, "9ce6cd8b189e561eaf38c83f3bd2574d4ba3589d4100d79f0da1eedfb199bf82"), looks := true }, kinds := [], alts := [], laidByText := true, laidKinds := [.data, .data, .data, .sentinel, .sentinel, .sentinel, .sentinel], laidTests := true, laidLooks := .later }
def FnPartsCardSaid : Prop := Claim7.holds Tryz.pinned (.plain (OpenSpec.ofChange fnPartsSpec)) fnPartsCard

/-- THE SECOND FORM's CARD OF 'laws.FnExactTableAdd'. -/
def fnExactTableAddUptoCard : Claim7 := { stood := { row := fnExactTableAddUptoRow, standIns := [], harness := (true, "9ce6cd8b189e561eaf38c83f3bd2574d4ba3589d4100d79f0da1eedfb199bf82"), looks := true }, kinds := [], alts := [], laidByText := true, laidKinds := [.data, .data, .data, .sentinel, .sentinel, .sentinel, .sentinel], laidTests := true, laidLooks := .later }
def FnExactTableAddUptoCardSaid : Prop := Claim7.holds Tryz.pinned (.plain (OpenSpec.upto fnExactTableAddSpec)) fnExactTableAddUptoCard

/-- THE SECOND FORM's CARD OF 'laws.FnParts'. -/
def fnPartsUptoCard : Claim7 := { stood := { row := fnPartsUptoRow, standIns := [], harness := (true, "9ce6cd8b189e561eaf38c83f3bd2574d4ba3589d4100d79f0da1eedfb199bf82"), looks := true }, kinds := [], alts := [], laidByText := true, laidKinds := [.data, .data, .data, .sentinel, .sentinel, .sentinel, .sentinel], laidTests := true, laidLooks := .later }
def FnPartsUptoCardSaid : Prop := Claim7.holds Tryz.pinned (.plain (OpenSpec.upto fnPartsSpec)) fnPartsUptoCard
end Rows
end Go.Proofs.YtjkcphnohhpihaaGreatDoor
