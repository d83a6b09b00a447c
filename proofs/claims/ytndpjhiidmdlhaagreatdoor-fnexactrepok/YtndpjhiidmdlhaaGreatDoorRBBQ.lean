/- The closed facts of the row of laws.FnExactRepOk, asked of the program by the kernel (what calls itself, what is named). -/
import Derived.Test.YtndpjhiidmdlhaaGreatDoorCards
import Derived.Test.YtndpjhiidmdlhaaGreatDoorTie
import Derived.WalkKit
import Derived.ProofKit
import Derived.OpenShut
namespace Go.Proofs.YtndpjhiidmdlhaaGreatDoor.fnExactRepOk
open Go.ChangeShapes Go.WideShapes Go.ChangeAt Go.RowKit
theorem closedR : (Rows.fnExactRepOkRow.recurses == Tryz.prog.recurses 3) = true := by kernel_rfl
theorem closedN : (Rows.fnExactRepOkRow.named == Tryz.prog.varsNamed 3) = true := by kernel_rfl
end Go.Proofs.YtndpjhiidmdlhaaGreatDoor.fnExactRepOk
