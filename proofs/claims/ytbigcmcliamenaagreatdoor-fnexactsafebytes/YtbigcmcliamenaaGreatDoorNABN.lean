/- The closed facts of the row of laws.FnExactSafeBytes, asked of the program by the kernel. -/
import Derived.Test.YtbigcmcliamenaaGreatDoorCards
import Derived.Test.YtbigcmcliamenaaGreatDoorTie
import Derived.WalkKit
import Derived.ProofKit
import Derived.OpenShut
namespace Go.Proofs.YtbigcmcliamenaaGreatDoor.fnExactSafeBytes
open Go.ChangeShapes Go.WideShapes Go.ChangeAt Go.RowKit
theorem closed : joinedFacts Tryz.prog 6 Tryz.f6 Rows.fnExactSafeBytesSpec Rows.fnExactSafeBytesRow = true := by kernel_rfl
end Go.Proofs.YtbigcmcliamenaaGreatDoor.fnExactSafeBytes
