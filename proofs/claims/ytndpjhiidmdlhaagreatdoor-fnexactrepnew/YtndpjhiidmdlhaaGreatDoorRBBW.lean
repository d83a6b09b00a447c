/- The closed facts of the row of laws.FnExactRepNew, asked of the program by the kernel (what calls itself, what is named). -/
import Derived.Test.YtndpjhiidmdlhaaGreatDoorCards
import Derived.Test.YtndpjhiidmdlhaaGreatDoorTie
import Derived.WalkKit
import Derived.ProofKit
import Derived.OpenShut
namespace Go.Proofs.YtndpjhiidmdlhaaGreatDoor.fnExactRepNew
open Go.ChangeShapes Go.WideShapes Go.ChangeAt Go.RowKit
theorem closedR : (Rows.fnExactRepNewRow.recurses == Tryz.prog.recurses 4) = true := by kernel_rfl
theorem closedN : (Rows.fnExactRepNewRow.named == Tryz.prog.varsNamed 4) = true := by kernel_rfl
end Go.Proofs.YtndpjhiidmdlhaaGreatDoor.fnExactRepNew
