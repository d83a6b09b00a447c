/- The closed facts of the row of laws.FnExactKept, asked of the program by the kernel (what is not followed). -/
import Derived.Test.YtndpjhiidmdlhaaGreatDoorCards
import Derived.Test.YtndpjhiidmdlhaaGreatDoorTie
import Derived.WalkKit
import Derived.ProofKit
import Derived.OpenShut
namespace Go.Proofs.YtndpjhiidmdlhaaGreatDoor.fnExactKept
open Go.ChangeShapes Go.WideShapes Go.ChangeAt Go.RowKit
theorem closedU : (Rows.fnExactKeptRow.unfollowed == Tryz.prog.unfollowed 5) = true := by kernel_rfl
end Go.Proofs.YtndpjhiidmdlhaaGreatDoor.fnExactKept
