/-
  DERIVED. GIVEN WITH THE SEED: THE CARDS: each row of YtkmnfeihjjccmaaGreatDoorRows.lean that lists a variable, with what it lists TIED to the program's text (the seventh form; the later family's looks); each row that meets fmt, with fmt's text TOLD by the authors' own Lean function (tested against real Go, not proved from fmt's source: count such statements apart). THE CARD IS WHAT COUNTS. Prove the row's statement (the work); the ties are given (YtkmnfeihjjccmaaGreatDoorTie.lean); close each card by the builder's one call (the guide's Derived/Test/ToyasCard.lean, 'card_holds'). Laid BY PROGRAM, IN A SANDBOX (cutbox-door.mjs). By AI agents, Wed Nov 11 2026. No macro, syntax, notation, axiom, sorry.
-/
import Derived.Test.YtkmnfeihjjccmaaGreatDoorRows
import GoSem.ClaimSeven
namespace Go.Proofs.YtkmnfeihjjccmaaGreatDoor
namespace Rows

/-- THE TIED CARD OF 'laws.FnExactTell'. -/
def fnExactTellCard : Claim7 := { stood := { row := fnExactTellRow, standIns := [], harness := (true, "eda62c47438622882cb258cc950e48574e79f2e4ba22411153198e8c03d99e9e"), looks := true }, kinds := [], alts := [], laidByText := true, laidKinds := [.data, .data, .data, .sentinel, .sentinel, .sentinel], laidTests := true, laidLooks := .later }
def FnExactTellCardSaid : Prop := Claim7.holds Tryz.pinned (.plain (OpenSpec.ofChange fnExactTellSpec)) fnExactTellCard

/-- THE SECOND FORM's CARD OF 'laws.FnExactTell'. -/
def fnExactTellUptoCard : Claim7 := { stood := { row := fnExactTellUptoRow, standIns := [], harness := (true, "eda62c47438622882cb258cc950e48574e79f2e4ba22411153198e8c03d99e9e"), looks := true }, kinds := [], alts := [], laidByText := true, laidKinds := [.data, .data, .data, .sentinel, .sentinel, .sentinel], laidTests := true, laidLooks := .later }
def FnExactTellUptoCardSaid : Prop := Claim7.holds Tryz.pinned (.plain (OpenSpec.upto fnExactTellSpec)) fnExactTellUptoCard
end Rows
end Go.Proofs.YtkmnfeihjjccmaaGreatDoor
