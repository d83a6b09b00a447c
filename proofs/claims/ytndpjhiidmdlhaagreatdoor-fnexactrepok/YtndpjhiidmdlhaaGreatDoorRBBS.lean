/- Whether what the row reaches goes of laws.FnExactRepOk, asked of the program by the kernel. -/
import Derived.Test.YtndpjhiidmdlhaaGreatDoorCards
import Derived.Test.YtndpjhiidmdlhaaGreatDoorTie
import Derived.WalkKit
import Derived.ProofKit
import Derived.OpenShut
namespace Go.Proofs.YtndpjhiidmdlhaaGreatDoor.fnExactRepOk
open Go.ChangeShapes Go.WideShapes Go.ChangeAt Go.RowKit
theorem goesG : false = Rows.fnExactRepOkRow.goesBy Tryz.prog := by kernel_rfl
end Go.Proofs.YtndpjhiidmdlhaaGreatDoor.fnExactRepOk
