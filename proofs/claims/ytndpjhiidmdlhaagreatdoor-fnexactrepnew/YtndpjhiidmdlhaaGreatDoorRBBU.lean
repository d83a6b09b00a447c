/- The closed facts of the row of laws.FnExactRepNew, asked of the program by the kernel (what is turned in place). -/
import Derived.Test.YtndpjhiidmdlhaaGreatDoorCards
import Derived.Test.YtndpjhiidmdlhaaGreatDoorTie
import Derived.WalkKit
import Derived.ProofKit
import Derived.OpenShut
namespace Go.Proofs.YtndpjhiidmdlhaaGreatDoor.fnExactRepNew
open Go.ChangeShapes Go.WideShapes Go.ChangeAt Go.RowKit
theorem closedP : (Rows.fnExactRepNewRow.inPlace == Tryz.prog.inPlace 4) = true := by kernel_rfl
end Go.Proofs.YtndpjhiidmdlhaaGreatDoor.fnExactRepNew
