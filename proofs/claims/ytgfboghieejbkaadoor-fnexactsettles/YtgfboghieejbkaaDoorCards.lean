/-
  DERIVED. GIVEN WITH THE SEED: THE CARDS: each row of YtgfboghieejbkaaDoorRows.lean that lists a variable, with what it lists TIED to the program's text (the seventh form; the later family's looks); each row that meets fmt, with fmt's text TOLD by the authors' own Lean function (tested against real Go, not proved from fmt's source: count such statements apart). THE CARD IS WHAT COUNTS. Prove the row's statement (the work); the ties are given (YtgfboghieejbkaaDoorTie.lean); close each card by the builder's one call (the guide's Derived/Test/ToyasCard.lean, 'card_holds'). Laid BY PROGRAM, IN A SANDBOX (cutbox-door.mjs). By AI agents, Wed Nov 11 2026. No macro, syntax, notation, axiom, sorry.
-/
import Derived.Test.YtgfboghieejbkaaDoorRows
import GoSem.ClaimSeven
namespace Go.Proofs.YtgfboghieejbkaaDoor
namespace Rows

/-- THE TIED CARD OF 'laws.FnExactSettles'. -/
def fnExactSettlesCard : Claim7 := { stood := { row := fnExactSettlesRow, standIns := [], harness := (true, "8e62d22fddc48022a2ef666ddde88baa771b1a112cc383d669f34039619e80fe"), looks := true }, kinds := [], alts := [], laidByText := true, laidKinds := [.data, .data, .data, .sentinel, .sentinel, .sentinel], laidTests := true, laidLooks := .later }
def FnExactSettlesCardSaid : Prop := Claim7.holds Tryd.pinned (.plain (OpenSpec.ofChange fnExactSettlesSpec)) fnExactSettlesCard

/-- THE SECOND FORM's CARD OF 'laws.FnExactSettles'. -/
def fnExactSettlesUptoCard : Claim7 := { stood := { row := fnExactSettlesUptoRow, standIns := [], harness := (true, "8e62d22fddc48022a2ef666ddde88baa771b1a112cc383d669f34039619e80fe"), looks := true }, kinds := [], alts := [], laidByText := true, laidKinds := [.data, .data, .data, .sentinel, .sentinel, .sentinel], laidTests := true, laidLooks := .later }
def FnExactSettlesUptoCardSaid : Prop := Claim7.holds Tryd.pinned (.plain (OpenSpec.upto fnExactSettlesSpec)) fnExactSettlesUptoCard
end Rows
end Go.Proofs.YtgfboghieejbkaaDoor
