/- TxOk of the program and of the specification; toTx. -/
import Derived.Test.YtihaecmlfmfbfaaDoorIn
namespace Go.Proofs.YtihaecmlfmfbfaaDoor
open Go.RowKit
set_option linter.unusedSectionVars false

/-- Whether a payment of these four numbers is right. -/
def Ok4 (a b c d : Int) : Prop := (0 ≤ a ∧ a ≤ 3) ∧ (0 ≤ b ∧ b ≤ 3) ∧ (0 ≤ c ∧ c ≤ 1000) ∧ (0 ≤ d ∧ d ≤ 99)
variable [∀ (a b c d : Int), Decidable (Ok4 a b c d)]
/-- A payment as a value. -/
abbrev txv (a b c d : Int) : Value := .agg #[.int .i64 a, .int .i64 b, .int .i64 c, .int .i64 d]

end Go.Proofs.YtihaecmlfmfbfaaDoor
