/-
  DERIVED. GIVEN WITH THE SEED: THE CARDS: each row of YtggmgfkmbgcooaaGreatDoorRows.lean that lists a variable, with what it lists TIED to the program's text (the seventh form; the later family's looks); each row that meets fmt, with fmt's text TOLD by the authors' own Lean function (tested against real Go, not proved from fmt's source: count such statements apart). THE CARD IS WHAT COUNTS. Prove the row's statement (the work); the ties are given (YtggmgfkmbgcooaaGreatDoorTie.lean); close each card by the builder's one call (the guide's Derived/Test/ToyasCard.lean, 'card_holds'). Laid BY PROGRAM, IN A SANDBOX (cutbox-door.mjs). By AI agents, Wed Nov 11 2026. No macro, syntax, notation, axiom, sorry.
-/
import Derived.Test.YtggmgfkmbgcooaaGreatDoorRows
import GoSem.ClaimSeven
namespace Go.Proofs.YtggmgfkmbgcooaaGreatDoor
namespace Rows

/-- THE TIED CARD OF 'laws.FnBlocks'. -/
def fnBlocksCard : Claim7 := { stood := { row := fnBlocksRow, standIns := [], harness := (true, "2038215fda16151b90a08f69adaec692b92d9ebc2a27ba27c9b4d428db41b565"), looks := true }, kinds := [], alts := [], laidByText := true, laidKinds := [.data, .data, .data, .sentinel, .sentinel, .sentinel], laidTests := true, laidLooks := .later }
def FnBlocksCardSaid : Prop := Claim7.holds Tryz.pinned (.plain (OpenSpec.ofChange fnBlocksSpec)) fnBlocksCard

/-- THE TIED CARD OF 'laws.FnExactBlockOk'. -/
def fnExactBlockOkCard : Claim7 := { stood := { row := fnExactBlockOkRow, standIns := [], harness := (true, "2038215fda16151b90a08f69adaec692b92d9ebc2a27ba27c9b4d428db41b565"), looks := true }, kinds := [], alts := [], laidByText := true, laidKinds := [.data, .data, .data, .sentinel, .sentinel, .sentinel], laidTests := true, laidLooks := .later }
def FnExactBlockOkCardSaid : Prop := Claim7.holds Tryz.pinned (.plain (OpenSpec.ofChange fnExactBlockOkSpec)) fnExactBlockOkCard

/-- THE TIED CARD OF 'laws.FnExactBlockNew'. -/
def fnExactBlockNewCard : Claim7 := { stood := { row := fnExactBlockNewRow, standIns := [], harness := (true, "2038215fda16151b90a08f69adaec692b92d9ebc2a27ba27c9b4d428db41b565"), looks := true }, kinds := [], alts := [], laidByText := true, laidKinds := [.data, .data, .data, .sentinel, .sentinel, .sentinel], laidTests := true, laidLooks := .later }
def FnExactBlockNewCardSaid : Prop := Claim7.holds Tryz.pinned (.plain (OpenSpec.ofChange fnExactBlockNewSpec)) fnExactBlockNewCard

/-- THE SECOND FORM's CARD OF 'laws.FnBlocks'. -/
def fnBlocksUptoCard : Claim7 := { stood := { row := fnBlocksUptoRow, standIns := [], harness := (true, "2038215fda16151b90a08f69adaec692b92d9ebc2a27ba27c9b4d428db41b565"), looks := true }, kinds := [], alts := [], laidByText := true, laidKinds := [.data, .data, .data, .sentinel, .sentinel, .sentinel], laidTests := true, laidLooks := .later }
def FnBlocksUptoCardSaid : Prop := Claim7.holds Tryz.pinned (.plain (OpenSpec.upto fnBlocksSpec)) fnBlocksUptoCard

/-- THE SECOND FORM's CARD OF 'laws.FnExactBlockOk'. -/
def fnExactBlockOkUptoCard : Claim7 := { stood := { row := fnExactBlockOkUptoRow, standIns := [], harness := (true, "2038215fda16151b90a08f69adaec692b92d9ebc2a27ba27c9b4d428db41b565"), looks := true }, kinds := [], alts := [], laidByText := true, laidKinds := [.data, .data, .data, .sentinel, .sentinel, .sentinel], laidTests := true, laidLooks := .later }
def FnExactBlockOkUptoCardSaid : Prop := Claim7.holds Tryz.pinned (.plain (OpenSpec.upto fnExactBlockOkSpec)) fnExactBlockOkUptoCard

/-- THE SECOND FORM's CARD OF 'laws.FnExactBlockNew'. -/
def fnExactBlockNewUptoCard : Claim7 := { stood := { row := fnExactBlockNewUptoRow, standIns := [], harness := (true, "2038215fda16151b90a08f69adaec692b92d9ebc2a27ba27c9b4d428db41b565"), looks := true }, kinds := [], alts := [], laidByText := true, laidKinds := [.data, .data, .data, .sentinel, .sentinel, .sentinel], laidTests := true, laidLooks := .later }
def FnExactBlockNewUptoCardSaid : Prop := Claim7.holds Tryz.pinned (.plain (OpenSpec.upto fnExactBlockNewSpec)) fnExactBlockNewUptoCard
end Rows
end Go.Proofs.YtggmgfkmbgcooaaGreatDoor
