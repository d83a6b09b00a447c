/- The closed facts of the row of laws.FnExactKept, asked of the program by the kernel (the rest of them). -/
import Derived.Test.YtndpjhiidmdlhaaGreatDoorCards
import Derived.Test.YtndpjhiidmdlhaaGreatDoorTie
import Derived.WalkKit
import Derived.ProofKit
import Derived.OpenShut
import Derived.Test.YtndpjhiidmdlhaaGreatDoorRCBM
import Derived.Test.YtndpjhiidmdlhaaGreatDoorRCBN
import Derived.Test.YtndpjhiidmdlhaaGreatDoorRCBO
namespace Go.Proofs.YtndpjhiidmdlhaaGreatDoor.fnExactKept
open Go.ChangeShapes Go.WideShapes Go.ChangeAt Go.RowKit
theorem closed : joinedFacts Tryz.prog 5 Tryz.f5 Rows.fnExactKeptSpec Rows.fnExactKeptRow = true := by
 unfold joinedFacts
 simp only [Bool.and_eq_true]
 repeat' apply And.intro
 all_goals first | (with_reducible exact closedP) | (with_reducible exact closedU) | (with_reducible exact closedR) | (with_reducible exact closedN) | kernel_rfl
end Go.Proofs.YtndpjhiidmdlhaaGreatDoor.fnExactKept
