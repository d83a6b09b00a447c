/-
  DERIVED. GIVEN WITH THE SEED: THE CARDS: each row of YtcjmcgolgbkknaaGreatDoorRows.lean that lists a variable, with what it lists TIED to the program's text (the seventh form; the later family's looks); each row that meets fmt, with fmt's text TOLD by the authors' own Lean function (tested against real Go, not proved from fmt's source: count such statements apart). THE CARD IS WHAT COUNTS. Prove the row's statement (the work); the ties are given (YtcjmcgolgbkknaaGreatDoorTie.lean); close each card by the builder's one call (the guide's Derived/Test/ToyasCard.lean, 'card_holds'). Laid BY PROGRAM, IN A SANDBOX (cutbox-door.mjs). By AI agents, Wed Nov 11 2026. No macro, syntax, notation, axiom, sorry.
-/
import Derived.Test.YtcjmcgolgbkknaaGreatDoorRows
import GoSem.ClaimSeven
namespace Go.Proofs.YtcjmcgolgbkknaaGreatDoor
namespace Rows

/-- THE TIED CARD OF 'laws.FnExactRise'. -/
def fnExactRiseCard : Claim7 := { stood := { row := fnExactRiseRow, standIns := [], harness := (true, "635c9abc31d414d4a672c6716dd35d6f3103fd57d4bc50d35fbbf03ad42e95ff"), looks := true }, kinds := [], alts := [], laidByText := true, laidKinds := [.data, .data, .data, .handle, .sentinel, .sentinel, .sentinel], laidTests := true, laidLooks := .later }
def FnExactRiseCardSaid : Prop := Claim7.holds Tryz.pinned (.plain (OpenSpec.ofChange fnExactRiseSpec)) fnExactRiseCard

/-- THE TIED CARD OF 'laws.FnExactWrite'. -/
def fnExactWriteCard : Claim7 := { stood := { row := fnExactWriteRow, standIns := [], harness := (true, "635c9abc31d414d4a672c6716dd35d6f3103fd57d4bc50d35fbbf03ad42e95ff"), looks := true }, kinds := [], alts := [], laidByText := true, laidKinds := [.data, .data, .data, .sentinel, .sentinel, .sentinel], laidTests := true, laidLooks := .later }
def FnExactWriteCardSaid : Prop := Claim7.holds Tryz.pinned (.plain (OpenSpec.ofChange fnExactWriteSpec)) fnExactWriteCard

/-- THE TIED CARD OF 'laws.FnExactTellAll'. -/
def fnExactTellAllCard : Claim7 := { stood := { row := fnExactTellAllRow, standIns := [], harness := (true, "635c9abc31d414d4a672c6716dd35d6f3103fd57d4bc50d35fbbf03ad42e95ff"), looks := true }, kinds := [], alts := [], laidByText := true, laidKinds := [.data, .data, .data, .sentinel, .sentinel, .sentinel], laidTests := true, laidLooks := .later }
def FnExactTellAllCardSaid : Prop := Claim7.holds Tryz.pinned (.plain (OpenSpec.ofChange fnExactTellAllSpec)) fnExactTellAllCard

/-- THE SECOND FORM's CARD OF 'laws.FnExactRise'. -/
def fnExactRiseUptoCard : Claim7 := { stood := { row := fnExactRiseUptoRow, standIns := [], harness := (true, "635c9abc31d414d4a672c6716dd35d6f3103fd57d4bc50d35fbbf03ad42e95ff"), looks := true }, kinds := [], alts := [], laidByText := true, laidKinds := [.data, .data, .data, .handle, .sentinel, .sentinel, .sentinel], laidTests := true, laidLooks := .later }
def FnExactRiseUptoCardSaid : Prop := Claim7.holds Tryz.pinned (.plain (OpenSpec.upto fnExactRiseSpec)) fnExactRiseUptoCard

/-- THE SECOND FORM's CARD OF 'laws.FnExactWrite'. -/
def fnExactWriteUptoCard : Claim7 := { stood := { row := fnExactWriteUptoRow, standIns := [], harness := (true, "635c9abc31d414d4a672c6716dd35d6f3103fd57d4bc50d35fbbf03ad42e95ff"), looks := true }, kinds := [], alts := [], laidByText := true, laidKinds := [.data, .data, .data, .sentinel, .sentinel, .sentinel], laidTests := true, laidLooks := .later }
def FnExactWriteUptoCardSaid : Prop := Claim7.holds Tryz.pinned (.plain (OpenSpec.upto fnExactWriteSpec)) fnExactWriteUptoCard

/-- THE SECOND FORM's CARD OF 'laws.FnExactTellAll'. -/
def fnExactTellAllUptoCard : Claim7 := { stood := { row := fnExactTellAllUptoRow, standIns := [], harness := (true, "635c9abc31d414d4a672c6716dd35d6f3103fd57d4bc50d35fbbf03ad42e95ff"), looks := true }, kinds := [], alts := [], laidByText := true, laidKinds := [.data, .data, .data, .sentinel, .sentinel, .sentinel], laidTests := true, laidLooks := .later }
def FnExactTellAllUptoCardSaid : Prop := Claim7.holds Tryz.pinned (.plain (OpenSpec.upto fnExactTellAllSpec)) fnExactTellAllUptoCard
end Rows
end Go.Proofs.YtcjmcgolgbkknaaGreatDoor
