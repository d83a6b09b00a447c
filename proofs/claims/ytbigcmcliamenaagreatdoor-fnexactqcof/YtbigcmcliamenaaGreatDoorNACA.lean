/- The closed facts of the row of laws.FnExactQcOf, asked of the program by the kernel. -/
import Derived.Test.YtbigcmcliamenaaGreatDoorCards
import Derived.Test.YtbigcmcliamenaaGreatDoorTie
import Derived.WalkKit
import Derived.ProofKit
import Derived.OpenShut
namespace Go.Proofs.YtbigcmcliamenaaGreatDoor.fnExactQcOf
open Go.ChangeShapes Go.WideShapes Go.ChangeAt Go.RowKit
theorem closed : joinedFacts Tryz.prog 5 Tryz.f5 Rows.fnExactQcOfSpec Rows.fnExactQcOfRow = true := by kernel_rfl
end Go.Proofs.YtbigcmcliamenaaGreatDoor.fnExactQcOf
