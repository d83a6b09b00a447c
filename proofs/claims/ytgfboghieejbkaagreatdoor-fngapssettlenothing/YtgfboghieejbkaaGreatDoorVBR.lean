/- The closed facts of the row of laws.FnGapsSettleNothing, asked of the program by the kernel. -/
import Derived.Test.YtgfboghieejbkaaGreatDoorCards
import Derived.Test.YtgfboghieejbkaaGreatDoorTie
import Derived.WalkKit
import Derived.ProofKit
import Derived.OpenShut
namespace Go.Proofs.YtgfboghieejbkaaGreatDoor.fnGapsSettleNothing
open Go.ChangeShapes Go.WideShapes Go.ChangeAt Go.RowKit
theorem closed : joinedFacts Tryz.prog 8 Tryz.f8 Rows.fnGapsSettleNothingSpec Rows.fnGapsSettleNothingRow = true := by kernel_rfl
end Go.Proofs.YtgfboghieejbkaaGreatDoor.fnGapsSettleNothing
