/-
  DERIVED. GIVEN WITH THE SEED: THE CARDS: each row of YtihaecmlfmfbfaaDoorRows.lean that lists a variable, with what it lists TIED to the program's text (the seventh form; the later family's looks); each row that meets fmt, with fmt's text TOLD by the authors' own Lean function (tested against real Go, not proved from fmt's source: count such statements apart). THE CARD IS WHAT COUNTS. Prove the row's statement (the work); the ties are given (YtihaecmlfmfbfaaDoorTie.lean); close each card by the builder's one call (the guide's Derived/Test/ToyasCard.lean, 'card_holds'). Laid BY PROGRAM, IN A SANDBOX (cutbox-door.mjs). By AI agents, Wed Nov 11 2026. No macro, syntax, notation, axiom, sorry.
-/
import Derived.Test.YtihaecmlfmfbfaaDoorRows
import GoSem.ClaimSeven
namespace Go.Proofs.YtihaecmlfmfbfaaDoor
namespace Rows

/-- THE TIED CARD OF 'laws.FnExactMsgSame'. -/
def fnExactMsgSameCard : Claim7 := { stood := { row := fnExactMsgSameRow, standIns := [], harness := (true, "b833408e10f0a29a2975a08b56fb4a91c079b9a7ae5bdadd67e4eb7d8b6669fb"), looks := false }, kinds := [], alts := [], laidByText := true, laidKinds := [.data, .data, .data], laidTests := true, laidLooks := .later }
def FnExactMsgSameCardSaid : Prop := Claim7.holds Tryd.pinned (.plain (OpenSpec.ofChange fnExactMsgSameSpec)) fnExactMsgSameCard

/-- THE SECOND FORM's CARD OF 'laws.FnExactMsgSame'. -/
def fnExactMsgSameUptoCard : Claim7 := { stood := { row := fnExactMsgSameUptoRow, standIns := [], harness := (true, "b833408e10f0a29a2975a08b56fb4a91c079b9a7ae5bdadd67e4eb7d8b6669fb"), looks := false }, kinds := [], alts := [], laidByText := true, laidKinds := [.data, .data, .data], laidTests := true, laidLooks := .later }
def FnExactMsgSameUptoCardSaid : Prop := Claim7.holds Tryd.pinned (.plain (OpenSpec.upto fnExactMsgSameSpec)) fnExactMsgSameUptoCard
end Rows
end Go.Proofs.YtihaecmlfmfbfaaDoor
