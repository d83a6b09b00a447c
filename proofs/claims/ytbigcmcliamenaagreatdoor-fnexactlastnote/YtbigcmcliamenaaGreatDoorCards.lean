/-
  DERIVED. GIVEN WITH THE SEED: THE CARDS: each row of YtbigcmcliamenaaGreatDoorRows.lean that lists a variable, with what it lists TIED to the program's text (the seventh form; the later family's looks); each row that meets fmt, with fmt's text TOLD by the authors' own Lean function (tested against real Go, not proved from fmt's source: count such statements apart). THE CARD IS WHAT COUNTS. Prove the row's statement (the work); the ties are given (YtbigcmcliamenaaGreatDoorTie.lean); close each card by the builder's one call (the guide's Derived/Test/ToyasCard.lean, 'card_holds'). Laid BY PROGRAM, IN A SANDBOX (cutbox-door.mjs). By AI agents, Wed Nov 11 2026. No macro, syntax, notation, axiom, sorry.
-/
import Derived.Test.YtbigcmcliamenaaGreatDoorRows
import GoSem.ClaimSeven
namespace Go.Proofs.YtbigcmcliamenaaGreatDoor
namespace Rows

/-- THE TIED CARD OF 'laws.FnNotes'. -/
def fnNotesCard : Claim7 := { stood := { row := fnNotesRow, standIns := [], harness := (true, "5cc58bd4f8db50a724eb663771bf1c4fd73b0ce72b55f844bfbcabab5f0ccd27"), looks := true }, kinds := [], alts := [], laidByText := true, laidKinds := [.data, .data, .data, .handle, .sentinel, .sentinel, .sentinel], laidTests := true, laidLooks := .later }
def FnNotesCardSaid : Prop := Claim7.holds Tryz.pinned (.plain (OpenSpec.ofChange fnNotesSpec)) fnNotesCard

/-- THE TIED CARD OF 'laws.FnExactQcBytes'. -/
def fnExactQcBytesCard : Claim7 := { stood := { row := fnExactQcBytesRow, standIns := [], harness := (true, "5cc58bd4f8db50a724eb663771bf1c4fd73b0ce72b55f844bfbcabab5f0ccd27"), looks := true }, kinds := [], alts := [], laidByText := true, laidKinds := [.data, .data, .data, .sentinel, .sentinel, .sentinel], laidTests := true, laidLooks := .later }
def FnExactQcBytesCardSaid : Prop := Claim7.holds Tryz.pinned (.plain (OpenSpec.ofChange fnExactQcBytesSpec)) fnExactQcBytesCard

/-- THE TIED CARD OF 'laws.FnExactQcOf'. -/
def fnExactQcOfCard : Claim7 := { stood := { row := fnExactQcOfRow, standIns := [], harness := (true, "5cc58bd4f8db50a724eb663771bf1c4fd73b0ce72b55f844bfbcabab5f0ccd27"), looks := true }, kinds := [], alts := [], laidByText := true, laidKinds := [.data, .data, .data, .handle, .sentinel, .sentinel, .sentinel], laidTests := true, laidLooks := .later }
def FnExactQcOfCardSaid : Prop := Claim7.holds Tryz.pinned (.plain (OpenSpec.ofChange fnExactQcOfSpec)) fnExactQcOfCard

/-- THE TIED CARD OF 'laws.FnExactSafeBytes'. -/
def fnExactSafeBytesCard : Claim7 := { stood := { row := fnExactSafeBytesRow, standIns := [], harness := (true, "5cc58bd4f8db50a724eb663771bf1c4fd73b0ce72b55f844bfbcabab5f0ccd27"), looks := true }, kinds := [], alts := [], laidByText := true, laidKinds := [.data, .data, .data, .sentinel, .sentinel, .sentinel], laidTests := true, laidLooks := .later }
def FnExactSafeBytesCardSaid : Prop := Claim7.holds Tryz.pinned (.plain (OpenSpec.ofChange fnExactSafeBytesSpec)) fnExactSafeBytesCard

/-- THE TIED CARD OF 'laws.FnExactSafeOf'. -/
def fnExactSafeOfCard : Claim7 := { stood := { row := fnExactSafeOfRow, standIns := [], harness := (true, "5cc58bd4f8db50a724eb663771bf1c4fd73b0ce72b55f844bfbcabab5f0ccd27"), looks := true }, kinds := [], alts := [], laidByText := true, laidKinds := [.data, .data, .data, .handle, .sentinel, .sentinel, .sentinel], laidTests := true, laidLooks := .later }
def FnExactSafeOfCardSaid : Prop := Claim7.holds Tryz.pinned (.plain (OpenSpec.ofChange fnExactSafeOfSpec)) fnExactSafeOfCard

/-- THE TIED CARD OF 'laws.FnExactNoteBytes'. -/
def fnExactNoteBytesCard : Claim7 := { stood := { row := fnExactNoteBytesRow, standIns := [], harness := (true, "5cc58bd4f8db50a724eb663771bf1c4fd73b0ce72b55f844bfbcabab5f0ccd27"), looks := true }, kinds := [], alts := [], laidByText := true, laidKinds := [.data, .data, .data, .sentinel, .sentinel, .sentinel], laidTests := true, laidLooks := .later }
def FnExactNoteBytesCardSaid : Prop := Claim7.holds Tryz.pinned (.plain (OpenSpec.ofChange fnExactNoteBytesSpec)) fnExactNoteBytesCard

/-- THE TIED CARD OF 'laws.FnExactLastNote'. -/
def fnExactLastNoteCard : Claim7 := { stood := { row := fnExactLastNoteRow, standIns := [], harness := (true, "5cc58bd4f8db50a724eb663771bf1c4fd73b0ce72b55f844bfbcabab5f0ccd27"), looks := true }, kinds := [], alts := [], laidByText := true, laidKinds := [.data, .data, .data, .handle, .sentinel, .sentinel, .sentinel], laidTests := true, laidLooks := .later }
def FnExactLastNoteCardSaid : Prop := Claim7.holds Tryz.pinned (.plain (OpenSpec.ofChange fnExactLastNoteSpec)) fnExactLastNoteCard

/-- THE SECOND FORM's CARD OF 'laws.FnNotes'. -/
def fnNotesUptoCard : Claim7 := { stood := { row := fnNotesUptoRow, standIns := [], harness := (true, "5cc58bd4f8db50a724eb663771bf1c4fd73b0ce72b55f844bfbcabab5f0ccd27"), looks := true }, kinds := [], alts := [], laidByText := true, laidKinds := [.data, .data, .data, .handle, .sentinel, .sentinel, .sentinel], laidTests := true, laidLooks := .later }
def FnNotesUptoCardSaid : Prop := Claim7.holds Tryz.pinned (.plain (OpenSpec.upto fnNotesSpec)) fnNotesUptoCard

/-- THE SECOND FORM's CARD OF 'laws.FnExactQcBytes'. -/
def fnExactQcBytesUptoCard : Claim7 := { stood := { row := fnExactQcBytesUptoRow, standIns := [], harness := (true, "5cc58bd4f8db50a724eb663771bf1c4fd73b0ce72b55f844bfbcabab5f0ccd27"), looks := true }, kinds := [], alts := [], laidByText := true, laidKinds := [.data, .data, .data, .sentinel, .sentinel, .sentinel], laidTests := true, laidLooks := .later }
def FnExactQcBytesUptoCardSaid : Prop := Claim7.holds Tryz.pinned (.plain (OpenSpec.upto fnExactQcBytesSpec)) fnExactQcBytesUptoCard

/-- THE SECOND FORM's CARD OF 'laws.FnExactQcOf'. -/
def fnExactQcOfUptoCard : Claim7 := { stood := { row := fnExactQcOfUptoRow, standIns := [], harness := (true, "5cc58bd4f8db50a724eb663771bf1c4fd73b0ce72b55f844bfbcabab5f0ccd27"), looks := true }, kinds := [], alts := [], laidByText := true, laidKinds := [.data, .data, .data, .handle, .sentinel, .sentinel, .sentinel], laidTests := true, laidLooks := .later }
def FnExactQcOfUptoCardSaid : Prop := Claim7.holds Tryz.pinned (.plain (OpenSpec.upto fnExactQcOfSpec)) fnExactQcOfUptoCard

/-- THE SECOND FORM's CARD OF 'laws.FnExactSafeBytes'. -/
def fnExactSafeBytesUptoCard : Claim7 := { stood := { row := fnExactSafeBytesUptoRow, standIns := [], harness := (true, "5cc58bd4f8db50a724eb663771bf1c4fd73b0ce72b55f844bfbcabab5f0ccd27"), looks := true }, kinds := [], alts := [], laidByText := true, laidKinds := [.data, .data, .data, .sentinel, .sentinel, .sentinel], laidTests := true, laidLooks := .later }
def FnExactSafeBytesUptoCardSaid : Prop := Claim7.holds Tryz.pinned (.plain (OpenSpec.upto fnExactSafeBytesSpec)) fnExactSafeBytesUptoCard

/-- THE SECOND FORM's CARD OF 'laws.FnExactSafeOf'. -/
def fnExactSafeOfUptoCard : Claim7 := { stood := { row := fnExactSafeOfUptoRow, standIns := [], harness := (true, "5cc58bd4f8db50a724eb663771bf1c4fd73b0ce72b55f844bfbcabab5f0ccd27"), looks := true }, kinds := [], alts := [], laidByText := true, laidKinds := [.data, .data, .data, .handle, .sentinel, .sentinel, .sentinel], laidTests := true, laidLooks := .later }
def FnExactSafeOfUptoCardSaid : Prop := Claim7.holds Tryz.pinned (.plain (OpenSpec.upto fnExactSafeOfSpec)) fnExactSafeOfUptoCard

/-- THE SECOND FORM's CARD OF 'laws.FnExactNoteBytes'. -/
def fnExactNoteBytesUptoCard : Claim7 := { stood := { row := fnExactNoteBytesUptoRow, standIns := [], harness := (true, "5cc58bd4f8db50a724eb663771bf1c4fd73b0ce72b55f844bfbcabab5f0ccd27"), looks := true }, kinds := [], alts := [], laidByText := true, laidKinds := [.data, .data, .data, .sentinel, .sentinel, .sentinel], laidTests := true, laidLooks := .later }
def FnExactNoteBytesUptoCardSaid : Prop := Claim7.holds Tryz.pinned (.plain (OpenSpec.upto fnExactNoteBytesSpec)) fnExactNoteBytesUptoCard

/-- THE SECOND FORM's CARD OF 'laws.FnExactLastNote'. -/
def fnExactLastNoteUptoCard : Claim7 := { stood := { row := fnExactLastNoteUptoRow, standIns := [], harness := (true, "5cc58bd4f8db50a724eb663771bf1c4fd73b0ce72b55f844bfbcabab5f0ccd27"), looks := true }, kinds := [], alts := [], laidByText := true, laidKinds := [.data, .data, .data, .handle, .sentinel, .sentinel, .sentinel], laidTests := true, laidLooks := .later }
def FnExactLastNoteUptoCardSaid : Prop := Claim7.holds Tryz.pinned (.plain (OpenSpec.upto fnExactLastNoteSpec)) fnExactLastNoteUptoCard
end Rows
end Go.Proofs.YtbigcmcliamenaaGreatDoor
