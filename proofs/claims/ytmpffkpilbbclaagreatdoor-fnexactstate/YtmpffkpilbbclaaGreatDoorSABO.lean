/- The closed facts of the row of laws.FnExactState, asked of the program by the kernel (what is not followed). -/
import Derived.Test.YtmpffkpilbbclaaGreatDoorCards
import Derived.Test.YtmpffkpilbbclaaGreatDoorTie
import Derived.WalkKit
import Derived.ProofKit
import Derived.OpenShut
namespace Go.Proofs.YtmpffkpilbbclaaGreatDoor.fnExactState
open Go.ChangeShapes Go.WideShapes Go.ChangeAt Go.RowKit
theorem closedU : (Rows.fnExactStateRow.unfollowed == Tryz.prog.unfollowed 4) = true := by kernel_rfl
end Go.Proofs.YtmpffkpilbbclaaGreatDoor.fnExactState
