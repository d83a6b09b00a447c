/-
  DERIVED. GIVEN WITH THE SEED: THE CARDS: each row of YtehdchpolgihlaaDoorRows.lean that lists a variable, with what it lists TIED to the program's text (the seventh form; the later family's looks); each row that meets fmt, with fmt's text TOLD by the authors' own Lean function (tested against real Go, not proved from fmt's source: count such statements apart). THE CARD IS WHAT COUNTS. Prove the row's statement (the work); the ties are given (YtehdchpolgihlaaDoorTie.lean); close each card by the builder's one call (the guide's Derived/Test/ToyasCard.lean, 'card_holds'). Laid BY PROGRAM, IN A SANDBOX (cutbox-door.mjs). By AI agents, Wed Nov 11 2026. No macro, syntax, notation, axiom, sorry.
-/
import Derived.Test.YtehdchpolgihlaaDoorRows
import GoSem.ClaimSeven
namespace Go.Proofs.YtehdchpolgihlaaDoor
namespace Rows

/-- THE TIED CARD OF 'laws.FnExactPartOk'. -/
def fnExactPartOkCard : Claim7 := { stood := { row := fnExactPartOkRow, standIns := [], harness := (true, "9ebd8fd0eec564b85bca7a69725ed72a1359e9db202f609dbb4dd3a1fb62a70f"), looks := true }, kinds := [], alts := [], laidByText := true, laidKinds := [.data, .data, .data, .sentinel, .sentinel, .sentinel], laidTests := true, laidLooks := .later }
def FnExactPartOkCardSaid : Prop := Claim7.holds Tryd.pinned (.plain (OpenSpec.ofChange fnExactPartOkSpec)) fnExactPartOkCard

/-- THE TIED CARD OF 'laws.FnExactPartJoin'. -/
def fnExactPartJoinCard : Claim7 := { stood := { row := fnExactPartJoinRow, standIns := [], harness := (true, "9ebd8fd0eec564b85bca7a69725ed72a1359e9db202f609dbb4dd3a1fb62a70f"), looks := true }, kinds := [], alts := [], laidByText := true, laidKinds := [.sentinel], laidTests := true, laidLooks := .later }
def FnExactPartJoinCardSaid : Prop := Claim7.holds Tryd.pinned (.plain (OpenSpec.ofChange fnExactPartJoinSpec)) fnExactPartJoinCard

/-- THE SECOND FORM's CARD OF 'laws.FnExactPartOk'. -/
def fnExactPartOkUptoCard : Claim7 := { stood := { row := fnExactPartOkUptoRow, standIns := [], harness := (true, "9ebd8fd0eec564b85bca7a69725ed72a1359e9db202f609dbb4dd3a1fb62a70f"), looks := true }, kinds := [], alts := [], laidByText := true, laidKinds := [.data, .data, .data, .sentinel, .sentinel, .sentinel], laidTests := true, laidLooks := .later }
def FnExactPartOkUptoCardSaid : Prop := Claim7.holds Tryd.pinned (.plain (OpenSpec.upto fnExactPartOkSpec)) fnExactPartOkUptoCard

/-- THE SECOND FORM's CARD OF 'laws.FnExactPartJoin'. -/
def fnExactPartJoinUptoCard : Claim7 := { stood := { row := fnExactPartJoinUptoRow, standIns := [], harness := (true, "9ebd8fd0eec564b85bca7a69725ed72a1359e9db202f609dbb4dd3a1fb62a70f"), looks := true }, kinds := [], alts := [], laidByText := true, laidKinds := [.sentinel], laidTests := true, laidLooks := .later }
def FnExactPartJoinUptoCardSaid : Prop := Claim7.holds Tryd.pinned (.plain (OpenSpec.upto fnExactPartJoinSpec)) fnExactPartJoinUptoCard
end Rows
end Go.Proofs.YtehdchpolgihlaaDoor
