/- The closed facts of the row of laws.FnLockHolds, asked of the program by the kernel. -/
import Derived.Test.YtgfboghieejbkaaGreatDoorCards
import Derived.Test.YtgfboghieejbkaaGreatDoorTie
import Derived.WalkKit
import Derived.ProofKit
import Derived.OpenShut
namespace Go.Proofs.YtgfboghieejbkaaGreatDoor.fnLockHolds
open Go.ChangeShapes Go.WideShapes Go.ChangeAt Go.RowKit
theorem closed : joinedFacts Tryz.prog 5 Tryz.f5 Rows.fnLockHoldsSpec Rows.fnLockHoldsRow = true := by kernel_rfl
end Go.Proofs.YtgfboghieejbkaaGreatDoor.fnLockHolds
