/- The closed facts of the row of laws.FnExactSettles, asked of the program by the kernel. -/
import Derived.Test.YtgfboghieejbkaaDoorZdAG
import Derived.Test.YtgfboghieejbkaaDoorCards
import Derived.Test.YtgfboghieejbkaaDoorTie
import Derived.WalkKit
import Derived.ProofKit
import Derived.OpenShut
/- The walk of laws.FnExactSettles. -/
namespace Go.Proofs.YtgfboghieejbkaaDoor
open Go.RowKit
set_option linter.unusedSectionVars false
variable [∀ (a b c d : Int), Decidable (Ok4 a b c d)]
variable [∀ (a b c d : Nat), Decidable (okN a b c d)]
variable [∀ (last : Int) (s : St), Decidable (GoodSt last s)]
variable [∀ (x : T4), Decidable (OkT x)]
variable [∀ (n : Int) (s : List Int), Decidable (OkL n s)]
variable [∀ (n f : Int), Decidable (COk n f)]

set_option maxHeartbeats 4000000 in
set_option maxRecDepth 100000 in
theorem fnSettles_walk (s : ByteArray) (w : World) (hs : s.size ≤ maxLen) (hE : Env w) :
    Calls Tryd.prog 3 #[.string s] w fun e w' => e = .returned (.bool true) ∧ Below w.heap.size w w' := by
  unfold maxLen at hs
  by_cases h : s.size ≤ 1048576
  · have SP := hide fun w' => specSettles s w' h
    have IM := hide fun w' (b : Below w.heap.size w w') => implSettles s w' (by omega) (hE.below b)
    have hd : decide ((1048576 : Int) < (s.size : Int)) = false := by simp; omega
    generalize stN s = nn at *
    generalize stB s = q at *
    have e1 : (nn.toList != nn.toList) = false := by simp
    have e2 : (q != q) = false := by simp
    clear hE
    go_enter Tryd.func3, Tryd.ntmps3
    go_wp2_with fail
    refine (unhide SP _).mono ?_
    rintro _ w1 ⟨rfl, b1⟩
    go_wp2_with fail
    refine (unhide IM _ b1).mono ?_
    rintro _ w2 ⟨rfl, b2⟩
    go_wp2
    go_ret
    exact ⟨rfl, b1.trans (b2.mono b1.size)⟩
  · have hd : decide ((1048576 : Int) < (s.size : Int)) = true := by simp; omega
    go_enter Tryd.func3, Tryd.ntmps3
    go_wp2
    go_ret
    exact ⟨rfl, Below.refl _ _⟩
end Go.Proofs.YtgfboghieejbkaaDoor

/- The closed facts of the row of laws.FnExactSettles, asked of the program by the kernel. -/
namespace Go.Proofs.YtgfboghieejbkaaDoor.fnExactSettles
open Go.ChangeShapes Go.WideShapes Go.ChangeAt Go.RowKit
theorem closed : joinedFacts Tryd.prog 3 Tryd.f3 Rows.fnExactSettlesSpec Rows.fnExactSettlesRow = true := by kernel_rfl
end Go.Proofs.YtgfboghieejbkaaDoor.fnExactSettles
