/-
  DERIVED. GIVEN WITH THE SEED: THE CARDS: each row of YtggmgfkmbgcooaaDoorRows.lean that lists a variable, with what it lists TIED to the program's text (the seventh form; the later family's looks); each row that meets fmt, with fmt's text TOLD by the authors' own Lean function (tested against real Go, not proved from fmt's source: count such statements apart). THE CARD IS WHAT COUNTS. Prove the row's statement (the work); the ties are given (YtggmgfkmbgcooaaDoorTie.lean); close each card by the builder's one call (the guide's Derived/Test/ToyasCard.lean, 'card_holds'). Laid BY PROGRAM, IN A SANDBOX (cutbox-door.mjs). By AI agents, Wed Nov 11 2026. No macro, syntax, notation, axiom, sorry.
-/
import Derived.Test.YtggmgfkmbgcooaaDoorRows
import GoSem.ClaimSeven
namespace Go.Proofs.YtggmgfkmbgcooaaDoor
namespace Rows

/-- THE TIED CARD OF 'laws.FnExactBlockSame'. -/
def fnExactBlockSameCard : Claim7 := { stood := { row := fnExactBlockSameRow, standIns := [], harness := (true, "08ca355b3ed9963eddce4c8be42ab8459050576835d4981a360d5ad72d80310c"), looks := false }, kinds := [], alts := [], laidByText := true, laidKinds := [.data, .data, .data], laidTests := true, laidLooks := .later }
def FnExactBlockSameCardSaid : Prop := Claim7.holds Tryd.pinned (.plain (OpenSpec.ofChange fnExactBlockSameSpec)) fnExactBlockSameCard

/-- THE SECOND FORM's CARD OF 'laws.FnExactBlockSame'. -/
def fnExactBlockSameUptoCard : Claim7 := { stood := { row := fnExactBlockSameUptoRow, standIns := [], harness := (true, "08ca355b3ed9963eddce4c8be42ab8459050576835d4981a360d5ad72d80310c"), looks := false }, kinds := [], alts := [], laidByText := true, laidKinds := [.data, .data, .data], laidTests := true, laidLooks := .later }
def FnExactBlockSameUptoCardSaid : Prop := Claim7.holds Tryd.pinned (.plain (OpenSpec.upto fnExactBlockSameSpec)) fnExactBlockSameUptoCard
end Rows
end Go.Proofs.YtggmgfkmbgcooaaDoor
