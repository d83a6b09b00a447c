/- The closed facts of the row of laws.FnExactState, asked of the program by the kernel (the rest of them). -/
import Derived.Test.YtmpffkpilbbclaaGreatDoorSABN
import Derived.Test.YtmpffkpilbbclaaGreatDoorSABO
import Derived.Test.YtmpffkpilbbclaaGreatDoorSABP
namespace Go.Proofs.YtmpffkpilbbclaaGreatDoor.fnExactState
open Go.ChangeShapes Go.WideShapes Go.ChangeAt Go.RowKit
theorem closed : joinedFacts Tryz.prog 4 Tryz.f4 Rows.fnExactStateSpec Rows.fnExactStateRow = true := by
 unfold joinedFacts
 simp only [Bool.and_eq_true]
 repeat' apply And.intro
 all_goals first | (with_reducible exact closedP) | (with_reducible exact closedU) | (with_reducible exact closedR) | (with_reducible exact closedN) | kernel_rfl
end Go.Proofs.YtmpffkpilbbclaaGreatDoor.fnExactState
