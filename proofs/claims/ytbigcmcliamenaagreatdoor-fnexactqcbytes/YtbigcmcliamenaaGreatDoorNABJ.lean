/- The closed facts of the row of laws.FnExactQcBytes, asked of the program by the kernel. -/
import Derived.Test.YtbigcmcliamenaaGreatDoorCards
import Derived.Test.YtbigcmcliamenaaGreatDoorTie
import Derived.WalkKit
import Derived.ProofKit
import Derived.OpenShut
namespace Go.Proofs.YtbigcmcliamenaaGreatDoor.fnExactQcBytes
open Go.ChangeShapes Go.WideShapes Go.ChangeAt Go.RowKit
theorem closed : joinedFacts Tryz.prog 4 Tryz.f4 Rows.fnExactQcBytesSpec Rows.fnExactQcBytesRow = true := by kernel_rfl
end Go.Proofs.YtbigcmcliamenaaGreatDoor.fnExactQcBytes
