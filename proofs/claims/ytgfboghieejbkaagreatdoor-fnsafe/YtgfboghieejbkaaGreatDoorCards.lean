/-
  DERIVED. GIVEN WITH THE SEED: THE CARDS: each row of YtgfboghieejbkaaGreatDoorRows.lean that lists a variable, with what it lists TIED to the program's text (the seventh form; the later family's looks); each row that meets fmt, with fmt's text TOLD by the authors' own Lean function (tested against real Go, not proved from fmt's source: count such statements apart). THE CARD IS WHAT COUNTS. Prove the row's statement (the work); the ties are given (YtgfboghieejbkaaGreatDoorTie.lean); close each card by the builder's one call (the guide's Derived/Test/ToyasCard.lean, 'card_holds'). Laid BY PROGRAM, IN A SANDBOX (cutbox-door.mjs). By AI agents, Wed Nov 11 2026. No macro, syntax, notation, axiom, sorry.
-/
import Derived.Test.YtgfboghieejbkaaGreatDoorRows
import GoSem.ClaimSeven
namespace Go.Proofs.YtgfboghieejbkaaGreatDoor
namespace Rows

/-- THE TIED CARD OF 'laws.FnParts'. -/
def fnPartsCard : Claim7 := { stood := { row := fnPartsRow, standIns := [], harness := (true, "1056648de142746086879b65fbb57d1b7463ac4ac5e5d86d1d9443dec9aba376"), looks := true }, kinds := [], alts := [], laidByText := true, laidKinds := [.data, .data, .data, .sentinel, .sentinel, .sentinel, .sentinel], laidTests := true, laidLooks := .later }
def FnPartsCardSaid : Prop := Claim7.holds Tryz.pinned (.plain (OpenSpec.ofChange fnPartsSpec)) fnPartsCard

/-- THE TIED CARD OF 'laws.FnSafe'. -/
def fnSafeCard : Claim7 := { stood := { row := fnSafeRow, standIns := [], harness := (true, "1056648de142746086879b65fbb57d1b7463ac4ac5e5d86d1d9443dec9aba376"), looks := true }, kinds := [], alts := [], laidByText := true, laidKinds := [.data, .data, .data, .sentinel, .sentinel, .sentinel], laidTests := true, laidLooks := .later }
def FnSafeCardSaid : Prop := Claim7.holds Tryz.pinned (.plain (OpenSpec.ofChange fnSafeSpec)) fnSafeCard

/-- THE TIED CARD OF 'laws.FnLockHolds'. -/
def fnLockHoldsCard : Claim7 := { stood := { row := fnLockHoldsRow, standIns := [], harness := (true, "1056648de142746086879b65fbb57d1b7463ac4ac5e5d86d1d9443dec9aba376"), looks := true }, kinds := [], alts := [], laidByText := true, laidKinds := [.data, .data, .data, .sentinel, .sentinel, .sentinel], laidTests := true, laidLooks := .later }
def FnLockHoldsCardSaid : Prop := Claim7.holds Tryz.pinned (.plain (OpenSpec.ofChange fnLockHoldsSpec)) fnLockHoldsCard

/-- THE TIED CARD OF 'laws.FnEitherOrder'. -/
def fnEitherOrderCard : Claim7 := { stood := { row := fnEitherOrderRow, standIns := [], harness := (true, "1056648de142746086879b65fbb57d1b7463ac4ac5e5d86d1d9443dec9aba376"), looks := true }, kinds := [], alts := [], laidByText := true, laidKinds := [.data, .data, .data, .sentinel, .sentinel, .sentinel], laidTests := true, laidLooks := .later }
def FnEitherOrderCardSaid : Prop := Claim7.holds Tryz.pinned (.plain (OpenSpec.ofChange fnEitherOrderSpec)) fnEitherOrderCard

/-- THE TIED CARD OF 'laws.FnSettlesThree'. -/
def fnSettlesThreeCard : Claim7 := { stood := { row := fnSettlesThreeRow, standIns := [], harness := (true, "1056648de142746086879b65fbb57d1b7463ac4ac5e5d86d1d9443dec9aba376"), looks := true }, kinds := [], alts := [], laidByText := true, laidKinds := [.data, .data, .data, .sentinel, .sentinel, .sentinel], laidTests := true, laidLooks := .later }
def FnSettlesThreeCardSaid : Prop := Claim7.holds Tryz.pinned (.plain (OpenSpec.ofChange fnSettlesThreeSpec)) fnSettlesThreeCard

/-- THE TIED CARD OF 'laws.FnGapsSettleNothing'. -/
def fnGapsSettleNothingCard : Claim7 := { stood := { row := fnGapsSettleNothingRow, standIns := [], harness := (true, "1056648de142746086879b65fbb57d1b7463ac4ac5e5d86d1d9443dec9aba376"), looks := true }, kinds := [], alts := [], laidByText := true, laidKinds := [.data, .data, .data, .sentinel, .sentinel, .sentinel], laidTests := true, laidLooks := .later }
def FnGapsSettleNothingCardSaid : Prop := Claim7.holds Tryz.pinned (.plain (OpenSpec.ofChange fnGapsSettleNothingSpec)) fnGapsSettleNothingCard

/-- THE TIED CARD OF 'laws.FnExactSafeOk'. -/
def fnExactSafeOkCard : Claim7 := { stood := { row := fnExactSafeOkRow, standIns := [], harness := (true, "1056648de142746086879b65fbb57d1b7463ac4ac5e5d86d1d9443dec9aba376"), looks := true }, kinds := [], alts := [], laidByText := true, laidKinds := [.data, .data, .data, .sentinel, .sentinel, .sentinel], laidTests := true, laidLooks := .later }
def FnExactSafeOkCardSaid : Prop := Claim7.holds Tryz.pinned (.plain (OpenSpec.ofChange fnExactSafeOkSpec)) fnExactSafeOkCard

/-- THE TIED CARD OF 'laws.FnExactSee'. -/
def fnExactSeeCard : Claim7 := { stood := { row := fnExactSeeRow, standIns := [], harness := (true, "1056648de142746086879b65fbb57d1b7463ac4ac5e5d86d1d9443dec9aba376"), looks := true }, kinds := [], alts := [], laidByText := true, laidKinds := [.data, .data, .data, .sentinel, .sentinel, .sentinel], laidTests := true, laidLooks := .later }
def FnExactSeeCardSaid : Prop := Claim7.holds Tryz.pinned (.plain (OpenSpec.ofChange fnExactSeeSpec)) fnExactSeeCard

/-- THE TIED CARD OF 'laws.FnExactMayVote'. -/
def fnExactMayVoteCard : Claim7 := { stood := { row := fnExactMayVoteRow, standIns := [], harness := (true, "1056648de142746086879b65fbb57d1b7463ac4ac5e5d86d1d9443dec9aba376"), looks := true }, kinds := [], alts := [], laidByText := true, laidKinds := [.data, .data, .data, .sentinel, .sentinel, .sentinel], laidTests := true, laidLooks := .later }
def FnExactMayVoteCardSaid : Prop := Claim7.holds Tryz.pinned (.plain (OpenSpec.ofChange fnExactMayVoteSpec)) fnExactMayVoteCard

/-- THE TIED CARD OF 'laws.FnExactVote'. -/
def fnExactVoteCard : Claim7 := { stood := { row := fnExactVoteRow, standIns := [], harness := (true, "1056648de142746086879b65fbb57d1b7463ac4ac5e5d86d1d9443dec9aba376"), looks := true }, kinds := [], alts := [], laidByText := true, laidKinds := [.data, .data, .data, .sentinel, .sentinel, .sentinel], laidTests := true, laidLooks := .later }
def FnExactVoteCardSaid : Prop := Claim7.holds Tryz.pinned (.plain (OpenSpec.ofChange fnExactVoteSpec)) fnExactVoteCard

/-- THE SECOND FORM's CARD OF 'laws.FnParts'. -/
def fnPartsUptoCard : Claim7 := { stood := { row := fnPartsUptoRow, standIns := [], harness := (true, "1056648de142746086879b65fbb57d1b7463ac4ac5e5d86d1d9443dec9aba376"), looks := true }, kinds := [], alts := [], laidByText := true, laidKinds := [.data, .data, .data, .sentinel, .sentinel, .sentinel, .sentinel], laidTests := true, laidLooks := .later }
def FnPartsUptoCardSaid : Prop := Claim7.holds Tryz.pinned (.plain (OpenSpec.upto fnPartsSpec)) fnPartsUptoCard

/-- THE SECOND FORM's CARD OF 'laws.FnSafe'. -/
def fnSafeUptoCard : Claim7 := { stood := { row := fnSafeUptoRow, standIns := [], harness := (true, "1056648de142746086879b65fbb57d1b7463ac4ac5e5d86d1d9443dec9aba376"), looks := true }, kinds := [], alts := [], laidByText := true, laidKinds := [.data, .data, .data, .sentinel, .sentinel, .sentinel], laidTests := true, laidLooks := .later }
def FnSafeUptoCardSaid : Prop := Claim7.holds Tryz.pinned (.plain (OpenSpec.upto fnSafeSpec)) fnSafeUptoCard

/-- THE SECOND FORM's CARD OF 'laws.FnLockHolds'. -/
def fnLockHoldsUptoCard : Claim7 := { stood := { row := fnLockHoldsUptoRow, standIns := [], harness := (true, "1056648de142746086879b65fbb57d1b7463ac4ac5e5d86d1d9443dec9aba376"), looks := true }, kinds := [], alts := [], laidByText := true, laidKinds := [.data, .data, .data, .sentinel, .sentinel, .sentinel], laidTests := true, laidLooks := .later }
def FnLockHoldsUptoCardSaid : Prop := Claim7.holds Tryz.pinned (.plain (OpenSpec.upto fnLockHoldsSpec)) fnLockHoldsUptoCard

/-- THE SECOND FORM's CARD OF 'laws.FnEitherOrder'. -/
def fnEitherOrderUptoCard : Claim7 := { stood := { row := fnEitherOrderUptoRow, standIns := [], harness := (true, "1056648de142746086879b65fbb57d1b7463ac4ac5e5d86d1d9443dec9aba376"), looks := true }, kinds := [], alts := [], laidByText := true, laidKinds := [.data, .data, .data, .sentinel, .sentinel, .sentinel], laidTests := true, laidLooks := .later }
def FnEitherOrderUptoCardSaid : Prop := Claim7.holds Tryz.pinned (.plain (OpenSpec.upto fnEitherOrderSpec)) fnEitherOrderUptoCard

/-- THE SECOND FORM's CARD OF 'laws.FnSettlesThree'. -/
def fnSettlesThreeUptoCard : Claim7 := { stood := { row := fnSettlesThreeUptoRow, standIns := [], harness := (true, "1056648de142746086879b65fbb57d1b7463ac4ac5e5d86d1d9443dec9aba376"), looks := true }, kinds := [], alts := [], laidByText := true, laidKinds := [.data, .data, .data, .sentinel, .sentinel, .sentinel], laidTests := true, laidLooks := .later }
def FnSettlesThreeUptoCardSaid : Prop := Claim7.holds Tryz.pinned (.plain (OpenSpec.upto fnSettlesThreeSpec)) fnSettlesThreeUptoCard

/-- THE SECOND FORM's CARD OF 'laws.FnGapsSettleNothing'. -/
def fnGapsSettleNothingUptoCard : Claim7 := { stood := { row := fnGapsSettleNothingUptoRow, standIns := [], harness := (true, "1056648de142746086879b65fbb57d1b7463ac4ac5e5d86d1d9443dec9aba376"), looks := true }, kinds := [], alts := [], laidByText := true, laidKinds := [.data, .data, .data, .sentinel, .sentinel, .sentinel], laidTests := true, laidLooks := .later }
def FnGapsSettleNothingUptoCardSaid : Prop := Claim7.holds Tryz.pinned (.plain (OpenSpec.upto fnGapsSettleNothingSpec)) fnGapsSettleNothingUptoCard

/-- THE SECOND FORM's CARD OF 'laws.FnExactSafeOk'. -/
def fnExactSafeOkUptoCard : Claim7 := { stood := { row := fnExactSafeOkUptoRow, standIns := [], harness := (true, "1056648de142746086879b65fbb57d1b7463ac4ac5e5d86d1d9443dec9aba376"), looks := true }, kinds := [], alts := [], laidByText := true, laidKinds := [.data, .data, .data, .sentinel, .sentinel, .sentinel], laidTests := true, laidLooks := .later }
def FnExactSafeOkUptoCardSaid : Prop := Claim7.holds Tryz.pinned (.plain (OpenSpec.upto fnExactSafeOkSpec)) fnExactSafeOkUptoCard

/-- THE SECOND FORM's CARD OF 'laws.FnExactSee'. -/
def fnExactSeeUptoCard : Claim7 := { stood := { row := fnExactSeeUptoRow, standIns := [], harness := (true, "1056648de142746086879b65fbb57d1b7463ac4ac5e5d86d1d9443dec9aba376"), looks := true }, kinds := [], alts := [], laidByText := true, laidKinds := [.data, .data, .data, .sentinel, .sentinel, .sentinel], laidTests := true, laidLooks := .later }
def FnExactSeeUptoCardSaid : Prop := Claim7.holds Tryz.pinned (.plain (OpenSpec.upto fnExactSeeSpec)) fnExactSeeUptoCard

/-- THE SECOND FORM's CARD OF 'laws.FnExactMayVote'. -/
def fnExactMayVoteUptoCard : Claim7 := { stood := { row := fnExactMayVoteUptoRow, standIns := [], harness := (true, "1056648de142746086879b65fbb57d1b7463ac4ac5e5d86d1d9443dec9aba376"), looks := true }, kinds := [], alts := [], laidByText := true, laidKinds := [.data, .data, .data, .sentinel, .sentinel, .sentinel], laidTests := true, laidLooks := .later }
def FnExactMayVoteUptoCardSaid : Prop := Claim7.holds Tryz.pinned (.plain (OpenSpec.upto fnExactMayVoteSpec)) fnExactMayVoteUptoCard

/-- THE SECOND FORM's CARD OF 'laws.FnExactVote'. -/
def fnExactVoteUptoCard : Claim7 := { stood := { row := fnExactVoteUptoRow, standIns := [], harness := (true, "1056648de142746086879b65fbb57d1b7463ac4ac5e5d86d1d9443dec9aba376"), looks := true }, kinds := [], alts := [], laidByText := true, laidKinds := [.data, .data, .data, .sentinel, .sentinel, .sentinel], laidTests := true, laidLooks := .later }
def FnExactVoteUptoCardSaid : Prop := Claim7.holds Tryz.pinned (.plain (OpenSpec.upto fnExactVoteSpec)) fnExactVoteUptoCard
end Rows
end Go.Proofs.YtgfboghieejbkaaGreatDoor
