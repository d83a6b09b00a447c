/- The closed facts of the row of laws.FnSafe, asked of the program by the kernel. -/
import Derived.Test.YtgfboghieejbkaaGreatDoorCards
import Derived.Test.YtgfboghieejbkaaGreatDoorTie
import Derived.WalkKit
import Derived.ProofKit
import Derived.OpenShut
namespace Go.Proofs.YtgfboghieejbkaaGreatDoor.fnSafe
open Go.ChangeShapes Go.WideShapes Go.ChangeAt Go.RowKit
theorem closed : joinedFacts Tryz.prog 4 Tryz.f4 Rows.fnSafeSpec Rows.fnSafeRow = true := by kernel_rfl
end Go.Proofs.YtgfboghieejbkaaGreatDoor.fnSafe
