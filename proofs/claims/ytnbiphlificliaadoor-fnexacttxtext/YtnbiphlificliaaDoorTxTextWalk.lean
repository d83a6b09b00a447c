/- The walk of laws.FnExactTxText. -/
import Derived.Test.YtnbiphlificliaaDoorTxText
namespace Go.Proofs.YtnbiphlificliaaDoor
open Go.RowKit
set_option linter.unusedSectionVars false
variable [∀ (a b c d : Int), Decidable (Ok4 a b c d)]

set_option maxHeartbeats 800000 in
set_option maxRecDepth 100000 in
theorem txText_walk (a b c d : Int) (w : World) (ht : Pow w) :
    Calls Tryd.prog 5 #[txv a b c d] w fun e w' => e = .returned (.bool true) ∧ Below w.heap.size w w' := by
  have SP := hide fun w => specTxText a b c d w
  have IM := hide fun w ht => implTxText a b c d w ht
  generalize txt a b c d = q at *
  have HT := hide ht
  clear ht
  go_enter Tryd.func5, Tryd.ntmps5
  go_wp2_with fail
  refine (toTx_any a b c d _).mono ?_
  rintro e w1 ⟨rfl, b1⟩
  have s1 := b1.size
  have C1 := hide ((cells4_new w a b c d 54).below b1 (by simp))
  have e1 : Below w.heap.size w w1 := ((Below.refl _ _).alloc (Nat.le_refl _) _).trans (b1.mono (by simp))
  go_wp2_with fail
  refine (unhide SP _).mono ?_
  rintro e w2 ⟨rfl, b2⟩
  have s2 := b2.size
  have e2 : Below w.heap.size w w2 := e1.trans (b2.mono e1.size)
  obtain ⟨x0, x1, x2, x3⟩ := (unhide C1).below b2 (by simp at s1; omega)
  go_wp2_with fail
  refine (toTx_any a b c d _).mono ?_
  rintro e w3 ⟨rfl, b3⟩
  have e3 : Below w.heap.size w w3 := e2.trans (b3.mono e2.size)
  have H3 := hide ((unhide HT).below e3)
  go_wp2_with fail
  refine (unhide IM _ (unhide H3)).mono ?_
  rintro e w4 ⟨rfl, b4⟩
  go_wp2
  go_ret
  exact ⟨rfl, e3.trans (b4.mono e3.size)⟩
end Go.Proofs.YtnbiphlificliaaDoor
