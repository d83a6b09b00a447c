/-
  DERIVED. GIVEN WITH THE SEED: THE CARDS: each row of YtnbiphlificliaaDoorRows.lean that lists a variable, with what it lists TIED to the program's text (the seventh form; the later family's looks); each row that meets fmt, with fmt's text TOLD by the authors' own Lean function (tested against real Go, not proved from fmt's source: count such statements apart). THE CARD IS WHAT COUNTS. Prove the row's statement (the work); the ties are given (YtnbiphlificliaaDoorTie.lean); close each card by the builder's one call (the guide's Derived/Test/ToyasCard.lean, 'card_holds'). Laid BY PROGRAM, IN A SANDBOX (cutbox-door.mjs). By AI agents, Wed Nov 11 2026. No macro, syntax, notation, axiom, sorry.
-/
import Derived.Test.YtnbiphlificliaaDoorRows
import GoSem.ClaimSeven
namespace Go.Proofs.YtnbiphlificliaaDoor
namespace Rows

/-- THE TIED CARD OF 'laws.FnTxs'. -/
def fnTxsCard : Claim7 := { stood := { row := fnTxsRow, standIns := [], harness := (true, "4260230043fc1eccc137cf718c23fbc5057d288d2a62ccd84b4abe4df43b2192"), looks := true }, kinds := [], alts := [], laidByText := true, laidKinds := [.data, .data, .data, .sentinel, .sentinel, .sentinel], laidTests := true, laidLooks := .later }
def FnTxsCardSaid : Prop := Claim7.holds Tryd.pinned (.plain (OpenSpec.ofChange fnTxsSpec)) fnTxsCard

/-- THE TIED CARD OF 'laws.FnNumbers'. -/
def fnNumbersCard : Claim7 := { stood := { row := fnNumbersRow, standIns := [], harness := (true, "4260230043fc1eccc137cf718c23fbc5057d288d2a62ccd84b4abe4df43b2192"), looks := true }, kinds := [], alts := [], laidByText := true, laidKinds := [.data, .data, .data, .sentinel, .sentinel, .sentinel], laidTests := true, laidLooks := .later }
def FnNumbersCardSaid : Prop := Claim7.holds Tryd.pinned (.plain (OpenSpec.ofChange fnNumbersSpec)) fnNumbersCard

/-- THE TIED CARD OF 'laws.FnExactTxText'. -/
def fnExactTxTextCard : Claim7 := { stood := { row := fnExactTxTextRow, standIns := [], harness := (true, "4260230043fc1eccc137cf718c23fbc5057d288d2a62ccd84b4abe4df43b2192"), looks := true }, kinds := [], alts := [], laidByText := true, laidKinds := [.data, .data, .data], laidTests := true, laidLooks := .later }
def FnExactTxTextCardSaid : Prop := Claim7.holds Tryd.pinned (.plain (OpenSpec.ofChange fnExactTxTextSpec)) fnExactTxTextCard

/-- THE TIED CARD OF 'laws.FnExactTxOf'. -/
def fnExactTxOfCard : Claim7 := { stood := { row := fnExactTxOfRow, standIns := [], harness := (true, "4260230043fc1eccc137cf718c23fbc5057d288d2a62ccd84b4abe4df43b2192"), looks := true }, kinds := [], alts := [], laidByText := true, laidKinds := [.data, .data, .data, .sentinel, .sentinel, .sentinel], laidTests := true, laidLooks := .later }
def FnExactTxOfCardSaid : Prop := Claim7.holds Tryd.pinned (.plain (OpenSpec.ofChange fnExactTxOfSpec)) fnExactTxOfCard

/-- THE TIED CARD OF 'laws.FnExactTxsText'. -/
def fnExactTxsTextCard : Claim7 := { stood := { row := fnExactTxsTextRow, standIns := [], harness := (true, "4260230043fc1eccc137cf718c23fbc5057d288d2a62ccd84b4abe4df43b2192"), looks := true }, kinds := [], alts := [], laidByText := true, laidKinds := [.data, .data, .data], laidTests := true, laidLooks := .later }
def FnExactTxsTextCardSaid : Prop := Claim7.holds Tryd.pinned (.plain (OpenSpec.ofChange fnExactTxsTextSpec)) fnExactTxsTextCard

/-- THE TIED CARD OF 'laws.FnExactTxsOf'. -/
def fnExactTxsOfCard : Claim7 := { stood := { row := fnExactTxsOfRow, standIns := [], harness := (true, "4260230043fc1eccc137cf718c23fbc5057d288d2a62ccd84b4abe4df43b2192"), looks := true }, kinds := [], alts := [], laidByText := true, laidKinds := [.data, .data, .data, .sentinel, .sentinel, .sentinel], laidTests := true, laidLooks := .later }
def FnExactTxsOfCardSaid : Prop := Claim7.holds Tryd.pinned (.plain (OpenSpec.ofChange fnExactTxsOfSpec)) fnExactTxsOfCard

/-- THE SECOND FORM's CARD OF 'laws.FnTxs'. -/
def fnTxsUptoCard : Claim7 := { stood := { row := fnTxsUptoRow, standIns := [], harness := (true, "4260230043fc1eccc137cf718c23fbc5057d288d2a62ccd84b4abe4df43b2192"), looks := true }, kinds := [], alts := [], laidByText := true, laidKinds := [.data, .data, .data, .sentinel, .sentinel, .sentinel], laidTests := true, laidLooks := .later }
def FnTxsUptoCardSaid : Prop := Claim7.holds Tryd.pinned (.plain (OpenSpec.upto fnTxsSpec)) fnTxsUptoCard

/-- THE SECOND FORM's CARD OF 'laws.FnNumbers'. -/
def fnNumbersUptoCard : Claim7 := { stood := { row := fnNumbersUptoRow, standIns := [], harness := (true, "4260230043fc1eccc137cf718c23fbc5057d288d2a62ccd84b4abe4df43b2192"), looks := true }, kinds := [], alts := [], laidByText := true, laidKinds := [.data, .data, .data, .sentinel, .sentinel, .sentinel], laidTests := true, laidLooks := .later }
def FnNumbersUptoCardSaid : Prop := Claim7.holds Tryd.pinned (.plain (OpenSpec.upto fnNumbersSpec)) fnNumbersUptoCard

/-- THE SECOND FORM's CARD OF 'laws.FnExactTxText'. -/
def fnExactTxTextUptoCard : Claim7 := { stood := { row := fnExactTxTextUptoRow, standIns := [], harness := (true, "4260230043fc1eccc137cf718c23fbc5057d288d2a62ccd84b4abe4df43b2192"), looks := true }, kinds := [], alts := [], laidByText := true, laidKinds := [.data, .data, .data], laidTests := true, laidLooks := .later }
def FnExactTxTextUptoCardSaid : Prop := Claim7.holds Tryd.pinned (.plain (OpenSpec.upto fnExactTxTextSpec)) fnExactTxTextUptoCard

/-- THE SECOND FORM's CARD OF 'laws.FnExactTxOf'. -/
def fnExactTxOfUptoCard : Claim7 := { stood := { row := fnExactTxOfUptoRow, standIns := [], harness := (true, "4260230043fc1eccc137cf718c23fbc5057d288d2a62ccd84b4abe4df43b2192"), looks := true }, kinds := [], alts := [], laidByText := true, laidKinds := [.data, .data, .data, .sentinel, .sentinel, .sentinel], laidTests := true, laidLooks := .later }
def FnExactTxOfUptoCardSaid : Prop := Claim7.holds Tryd.pinned (.plain (OpenSpec.upto fnExactTxOfSpec)) fnExactTxOfUptoCard

/-- THE SECOND FORM's CARD OF 'laws.FnExactTxsText'. -/
def fnExactTxsTextUptoCard : Claim7 := { stood := { row := fnExactTxsTextUptoRow, standIns := [], harness := (true, "4260230043fc1eccc137cf718c23fbc5057d288d2a62ccd84b4abe4df43b2192"), looks := true }, kinds := [], alts := [], laidByText := true, laidKinds := [.data, .data, .data], laidTests := true, laidLooks := .later }
def FnExactTxsTextUptoCardSaid : Prop := Claim7.holds Tryd.pinned (.plain (OpenSpec.upto fnExactTxsTextSpec)) fnExactTxsTextUptoCard

/-- THE SECOND FORM's CARD OF 'laws.FnExactTxsOf'. -/
def fnExactTxsOfUptoCard : Claim7 := { stood := { row := fnExactTxsOfUptoRow, standIns := [], harness := (true, "4260230043fc1eccc137cf718c23fbc5057d288d2a62ccd84b4abe4df43b2192"), looks := true }, kinds := [], alts := [], laidByText := true, laidKinds := [.data, .data, .data, .sentinel, .sentinel, .sentinel], laidTests := true, laidLooks := .later }
def FnExactTxsOfUptoCardSaid : Prop := Claim7.holds Tryd.pinned (.plain (OpenSpec.upto fnExactTxsOfSpec)) fnExactTxsOfUptoCard
end Rows
end Go.Proofs.YtnbiphlificliaaDoor
