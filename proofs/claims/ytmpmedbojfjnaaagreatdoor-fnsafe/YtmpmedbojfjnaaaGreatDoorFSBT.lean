/- The closed facts of the row of laws.FnSafe, asked of the program by the kernel. -/
import Derived.Test.YtmpmedbojfjnaaaGreatDoorCards
import Derived.Test.YtmpmedbojfjnaaaGreatDoorTie
import Derived.WalkKit
import Derived.ProofKit
import Derived.OpenShut
namespace Go.Proofs.YtmpmedbojfjnaaaGreatDoor.fnSafe
open Go.ChangeShapes Go.WideShapes Go.ChangeAt Go.RowKit
theorem closed : joinedFacts Tryz.prog 3 Tryz.f3 Rows.fnSafeSpec Rows.fnSafeRow = true := by kernel_rfl
end Go.Proofs.YtmpmedbojfjnaaaGreatDoor.fnSafe
