/- laws.eqTx of a payment with itself. -/
import Derived.Test.YtihaecmlfmfbfaaDoorToTx
namespace Go.Proofs.YtihaecmlfmfbfaaDoor
open Go.RowKit
set_option linter.unusedSectionVars false
variable [∀ (a b c d : Int), Decidable (Ok4 a b c d)]

set_option maxHeartbeats 800000 in
set_option maxRecDepth 100000 in
theorem eqTx_same (a b c d : Int) (w : World) :
    Calls Tryd.prog 24 #[txv a b c d, txv a b c d] w fun e w' => e = .returned (.bool true) ∧ Below w.heap.size w w' := by
  go_enter Tryd.func24, Tryd.ntmps24
  go_wp2
  go_ret
  exact ⟨rfl, ((Below.refl _ _).alloc (Nat.le_refl _) _).alloc (by simp) _⟩
end Go.Proofs.YtihaecmlfmfbfaaDoor
