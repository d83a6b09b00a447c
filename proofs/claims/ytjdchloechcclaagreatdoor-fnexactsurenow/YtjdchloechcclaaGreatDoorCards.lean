/-
  DERIVED. GIVEN WITH THE SEED: THE CARDS: each row of YtjdchloechcclaaGreatDoorRows.lean that lists a variable, with what it lists TIED to the program's text (the seventh form; the later family's looks); each row that meets fmt, with fmt's text TOLD by the authors' own Lean function (tested against real Go, not proved from fmt's source: count such statements apart). THE CARD IS WHAT COUNTS. Prove the row's statement (the work); the ties are given (YtjdchloechcclaaGreatDoorTie.lean); close each card by the builder's one call (the guide's Derived/Test/ToyasCard.lean, 'card_holds'). Laid BY PROGRAM, IN A SANDBOX (cutbox-door.mjs). By AI agents, Wed Nov 11 2026. No macro, syntax, notation, axiom, sorry.
-/
import Derived.Test.YtjdchloechcclaaGreatDoorRows
import GoSem.ClaimSeven
namespace Go.Proofs.YtjdchloechcclaaGreatDoor
namespace Rows

/-- THE TIED CARD OF 'laws.FnExactSureNow'. -/
def fnExactSureNowCard : Claim7 := { stood := { row := fnExactSureNowRow, standIns := [], harness := (true, "38a9c5db4e64e9036a53d4c6512a2831cfada07a43e3afd9a5ab8436478a2293"), looks := true }, kinds := [], alts := [], laidByText := true, laidKinds := [.data, .data, .data, .sentinel, .sentinel, .sentinel], laidTests := true, laidLooks := .later }
def FnExactSureNowCardSaid : Prop := Claim7.holds Tryz.pinned (.plain (OpenSpec.ofChange fnExactSureNowSpec)) fnExactSureNowCard

/-- THE TIED CARD OF 'laws.FnExactTell'. -/
def fnExactTellCard : Claim7 := { stood := { row := fnExactTellRow, standIns := [], harness := (true, "38a9c5db4e64e9036a53d4c6512a2831cfada07a43e3afd9a5ab8436478a2293"), looks := true }, kinds := [], alts := [], laidByText := true, laidKinds := [.data, .data, .data, .sentinel, .sentinel, .sentinel], laidTests := true, laidLooks := .later }
def FnExactTellCardSaid : Prop := Claim7.holds Tryz.pinned (.plain (OpenSpec.ofChange fnExactTellSpec)) fnExactTellCard

/-- THE TIED CARD OF 'laws.FnExactTellAll'. -/
def fnExactTellAllCard : Claim7 := { stood := { row := fnExactTellAllRow, standIns := [], harness := (true, "38a9c5db4e64e9036a53d4c6512a2831cfada07a43e3afd9a5ab8436478a2293"), looks := true }, kinds := [], alts := [], laidByText := true, laidKinds := [.data, .data, .data, .sentinel, .sentinel, .sentinel], laidTests := true, laidLooks := .later }
def FnExactTellAllCardSaid : Prop := Claim7.holds Tryz.pinned (.plain (OpenSpec.ofChange fnExactTellAllSpec)) fnExactTellAllCard

/-- THE TIED CARD OF 'laws.FnExactLate'. -/
def fnExactLateCard : Claim7 := { stood := { row := fnExactLateRow, standIns := [], harness := (true, "38a9c5db4e64e9036a53d4c6512a2831cfada07a43e3afd9a5ab8436478a2293"), looks := true }, kinds := [], alts := [], laidByText := true, laidKinds := [.data, .data, .data, .sentinel, .sentinel, .sentinel, .sentinel], laidTests := true, laidLooks := .later }
def FnExactLateCardSaid : Prop := Claim7.holds Tryz.pinned (.plain (OpenSpec.ofChange fnExactLateSpec)) fnExactLateCard

/-- THE SECOND FORM's CARD OF 'laws.FnExactSureNow'. -/
def fnExactSureNowUptoCard : Claim7 := { stood := { row := fnExactSureNowUptoRow, standIns := [], harness := (true, "38a9c5db4e64e9036a53d4c6512a2831cfada07a43e3afd9a5ab8436478a2293"), looks := true }, kinds := [], alts := [], laidByText := true, laidKinds := [.data, .data, .data, .sentinel, .sentinel, .sentinel], laidTests := true, laidLooks := .later }
def FnExactSureNowUptoCardSaid : Prop := Claim7.holds Tryz.pinned (.plain (OpenSpec.upto fnExactSureNowSpec)) fnExactSureNowUptoCard

/-- THE SECOND FORM's CARD OF 'laws.FnExactTell'. -/
def fnExactTellUptoCard : Claim7 := { stood := { row := fnExactTellUptoRow, standIns := [], harness := (true, "38a9c5db4e64e9036a53d4c6512a2831cfada07a43e3afd9a5ab8436478a2293"), looks := true }, kinds := [], alts := [], laidByText := true, laidKinds := [.data, .data, .data, .sentinel, .sentinel, .sentinel], laidTests := true, laidLooks := .later }
def FnExactTellUptoCardSaid : Prop := Claim7.holds Tryz.pinned (.plain (OpenSpec.upto fnExactTellSpec)) fnExactTellUptoCard

/-- THE SECOND FORM's CARD OF 'laws.FnExactTellAll'. -/
def fnExactTellAllUptoCard : Claim7 := { stood := { row := fnExactTellAllUptoRow, standIns := [], harness := (true, "38a9c5db4e64e9036a53d4c6512a2831cfada07a43e3afd9a5ab8436478a2293"), looks := true }, kinds := [], alts := [], laidByText := true, laidKinds := [.data, .data, .data, .sentinel, .sentinel, .sentinel], laidTests := true, laidLooks := .later }
def FnExactTellAllUptoCardSaid : Prop := Claim7.holds Tryz.pinned (.plain (OpenSpec.upto fnExactTellAllSpec)) fnExactTellAllUptoCard

/-- THE SECOND FORM's CARD OF 'laws.FnExactLate'. -/
def fnExactLateUptoCard : Claim7 := { stood := { row := fnExactLateUptoRow, standIns := [], harness := (true, "38a9c5db4e64e9036a53d4c6512a2831cfada07a43e3afd9a5ab8436478a2293"), looks := true }, kinds := [], alts := [], laidByText := true, laidKinds := [.data, .data, .data, .sentinel, .sentinel, .sentinel, .sentinel], laidTests := true, laidLooks := .later }
def FnExactLateUptoCardSaid : Prop := Claim7.holds Tryz.pinned (.plain (OpenSpec.upto fnExactLateSpec)) fnExactLateUptoCard
end Rows
end Go.Proofs.YtjdchloechcclaaGreatDoor
