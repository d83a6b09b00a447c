/-
  DERIVED. GIVEN WITH THE SEED: THE CARDS: each row of YtmpffkpilbbclaaGreatDoorRows.lean that lists a variable, with what it lists TIED to the program's text (the seventh form; the later family's looks); each row that meets fmt, with fmt's text TOLD by the authors' own Lean function (tested against real Go, not proved from fmt's source: count such statements apart). THE CARD IS WHAT COUNTS. Prove the row's statement (the work); the ties are given (YtmpffkpilbbclaaGreatDoorTie.lean); close each card by the builder's one call (the guide's Derived/Test/ToyasCard.lean, 'card_holds'). Laid BY PROGRAM, IN A SANDBOX (cutbox-door.mjs). By AI agents, Wed Nov 11 2026. No macro, syntax, notation, axiom, sorry.
-/
import Derived.Test.YtmpffkpilbbclaaGreatDoorRows
import GoSem.ClaimSeven
namespace Go.Proofs.YtmpffkpilbbclaaGreatDoor
namespace Rows

/-- THE TIED CARD OF 'laws.FnExactAsk'. -/
def fnExactAskCard : Claim7 := { stood := { row := fnExactAskRow, standIns := [], harness := (true, "11434e09f8a2ef11b150bb2b7fd618c8268cf86358063fdcb0ef882ed3d28560"), looks := true }, kinds := [], alts := [], laidByText := true, laidKinds := [.data, .data, .data, .sentinel, .sentinel, .sentinel], laidTests := true, laidLooks := .later }
def FnExactAskCardSaid : Prop := Claim7.holds Tryz.pinned (.plain (OpenSpec.ofChange fnExactAskSpec)) fnExactAskCard

/-- THE TIED CARD OF 'laws.FnExactState'. -/
def fnExactStateCard : Claim7 := { stood := { row := fnExactStateRow, standIns := [], harness := (true, "11434e09f8a2ef11b150bb2b7fd618c8268cf86358063fdcb0ef882ed3d28560"), looks := true }, kinds := [], alts := [], laidByText := true, laidKinds := [.data, .data, .data, .sentinel, .sentinel, .sentinel], laidTests := true, laidLooks := .later }
def FnExactStateCardSaid : Prop := Claim7.holds Tryz.pinned (.plain (OpenSpec.ofChange fnExactStateSpec)) fnExactStateCard

/-- THE SECOND FORM's CARD OF 'laws.FnExactAsk'. -/
def fnExactAskUptoCard : Claim7 := { stood := { row := fnExactAskUptoRow, standIns := [], harness := (true, "11434e09f8a2ef11b150bb2b7fd618c8268cf86358063fdcb0ef882ed3d28560"), looks := true }, kinds := [], alts := [], laidByText := true, laidKinds := [.data, .data, .data, .sentinel, .sentinel, .sentinel], laidTests := true, laidLooks := .later }
def FnExactAskUptoCardSaid : Prop := Claim7.holds Tryz.pinned (.plain (OpenSpec.upto fnExactAskSpec)) fnExactAskUptoCard

/-- THE SECOND FORM's CARD OF 'laws.FnExactState'. -/
def fnExactStateUptoCard : Claim7 := { stood := { row := fnExactStateUptoRow, standIns := [], harness := (true, "11434e09f8a2ef11b150bb2b7fd618c8268cf86358063fdcb0ef882ed3d28560"), looks := true }, kinds := [], alts := [], laidByText := true, laidKinds := [.data, .data, .data, .sentinel, .sentinel, .sentinel], laidTests := true, laidLooks := .later }
def FnExactStateUptoCardSaid : Prop := Claim7.holds Tryz.pinned (.plain (OpenSpec.upto fnExactStateSpec)) fnExactStateUptoCard
end Rows
end Go.Proofs.YtmpffkpilbbclaaGreatDoor
