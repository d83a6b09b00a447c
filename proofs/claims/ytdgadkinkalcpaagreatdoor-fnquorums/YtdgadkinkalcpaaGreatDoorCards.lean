/-
  DERIVED. GIVEN WITH THE SEED: THE CARDS: each row of YtdgadkinkalcpaaGreatDoorRows.lean that lists a variable, with what it lists TIED to the program's text (the seventh form; the later family's looks); each row that meets fmt, with fmt's text TOLD by the authors' own Lean function (tested against real Go, not proved from fmt's source: count such statements apart). THE CARD IS WHAT COUNTS. Prove the row's statement (the work); the ties are given (YtdgadkinkalcpaaGreatDoorTie.lean); close each card by the builder's one call (the guide's Derived/Test/ToyasCard.lean, 'card_holds'). Laid BY PROGRAM, IN A SANDBOX (cutbox-door.mjs). By AI agents, Wed Nov 11 2026. No macro, syntax, notation, axiom, sorry.
-/
import Derived.Test.YtdgadkinkalcpaaGreatDoorRows
import GoSem.ClaimSeven
namespace Go.Proofs.YtdgadkinkalcpaaGreatDoor
namespace Rows

/-- THE TIED CARD OF 'laws.FnQuorums'. -/
def fnQuorumsCard : Claim7 := { stood := { row := fnQuorumsRow, standIns := [], harness := (true, "d1ab8814af4156eb368705d345cb02c5ef2ea93017bc639182414cd98a6d2b93"), looks := true }, kinds := [], alts := [], laidByText := true, laidKinds := [.data, .data, .data, .sentinel, .sentinel, .sentinel], laidTests := true, laidLooks := .later }
def FnQuorumsCardSaid : Prop := Claim7.holds Tryz.pinned (.plain (OpenSpec.ofChange fnQuorumsSpec)) fnQuorumsCard

/-- THE TIED CARD OF 'laws.FnExactQcOk'. -/
def fnExactQcOkCard : Claim7 := { stood := { row := fnExactQcOkRow, standIns := [], harness := (true, "d1ab8814af4156eb368705d345cb02c5ef2ea93017bc639182414cd98a6d2b93"), looks := true }, kinds := [], alts := [], laidByText := true, laidKinds := [.data, .data, .data, .sentinel, .sentinel, .sentinel], laidTests := true, laidLooks := .later }
def FnExactQcOkCardSaid : Prop := Claim7.holds Tryz.pinned (.plain (OpenSpec.ofChange fnExactQcOkSpec)) fnExactQcOkCard

/-- THE SECOND FORM's CARD OF 'laws.FnQuorums'. -/
def fnQuorumsUptoCard : Claim7 := { stood := { row := fnQuorumsUptoRow, standIns := [], harness := (true, "d1ab8814af4156eb368705d345cb02c5ef2ea93017bc639182414cd98a6d2b93"), looks := true }, kinds := [], alts := [], laidByText := true, laidKinds := [.data, .data, .data, .sentinel, .sentinel, .sentinel], laidTests := true, laidLooks := .later }
def FnQuorumsUptoCardSaid : Prop := Claim7.holds Tryz.pinned (.plain (OpenSpec.upto fnQuorumsSpec)) fnQuorumsUptoCard

/-- THE SECOND FORM's CARD OF 'laws.FnExactQcOk'. -/
def fnExactQcOkUptoCard : Claim7 := { stood := { row := fnExactQcOkUptoRow, standIns := [], harness := (true, "d1ab8814af4156eb368705d345cb02c5ef2ea93017bc639182414cd98a6d2b93"), looks := true }, kinds := [], alts := [], laidByText := true, laidKinds := [.data, .data, .data, .sentinel, .sentinel, .sentinel], laidTests := true, laidLooks := .later }
def FnExactQcOkUptoCardSaid : Prop := Claim7.holds Tryz.pinned (.plain (OpenSpec.upto fnExactQcOkSpec)) fnExactQcOkUptoCard
end Rows
end Go.Proofs.YtdgadkinkalcpaaGreatDoor
