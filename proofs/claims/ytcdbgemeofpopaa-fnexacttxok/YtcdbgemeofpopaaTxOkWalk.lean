/- The walk of laws.FnExactTxOk. -/
import Derived.Test.YtcdbgemeofpopaaToTx
namespace Go.Proofs.Ytcdbgemeofpopaa
open Go.RowKit
set_option linter.unusedSectionVars false
variable [∀ (a b c d : Int), Decidable (Ok4 a b c d)]

set_option maxHeartbeats 800000 in
set_option maxRecDepth 100000 in
theorem txOk_walk (a b c d : Int) (w : World) :
    Calls Try.prog 4 #[txv a b c d] w fun e w' => e = .returned (.bool true) ∧ Below w.heap.size w w' := by
  have hbb : ∀ b : Bool, (b != b) = false := by simp
  generalize hq : decide (Ok4 a b c d) = q
  have SP := hide fun w => specTxOk a b c d w
  have IM := hide fun w => implTxOk a b c d w
  rw [hq] at SP IM
  clear hq
  go_enter Try.func4, Try.ntmps4
  go_wp2_with fail
  refine (toTx_any a b c d _).mono ?_
  rintro e w1 ⟨rfl, b1⟩
  have s1 := b1.size
  have C1 := hide ((cells4_new w a b c d 28).below b1 (by simp))
  go_wp2_with fail
  refine (unhide SP _).mono ?_
  rintro e w2 ⟨rfl, b2⟩
  have s2 := b2.size
  obtain ⟨x0, x1, x2, x3⟩ := (unhide C1).below b2 (by simp at s1; omega)
  go_wp2_with fail
  refine (toTx_any a b c d _).mono ?_
  rintro e w3 ⟨rfl, b3⟩
  have s3 := b3.size
  go_wp2_with fail
  refine (unhide IM _).mono ?_
  rintro e w4 ⟨rfl, b4⟩
  go_wp2
  go_ret
  exact ⟨rfl, (((Below.refl _ _).alloc (Nat.le_refl _) _).trans (b1.mono (by simp))).trans ((b2.mono (by simp at *; omega)).trans ((b3.mono (by simp at *; omega)).trans (b4.mono (by simp at *; omega))))⟩
end Go.Proofs.Ytcdbgemeofpopaa
