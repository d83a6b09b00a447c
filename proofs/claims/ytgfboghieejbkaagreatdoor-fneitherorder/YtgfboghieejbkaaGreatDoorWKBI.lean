/- The closed facts of the row of laws.FnEitherOrder, asked of the program by the kernel. -/
import Derived.Test.YtgfboghieejbkaaGreatDoorCards
import Derived.Test.YtgfboghieejbkaaGreatDoorTie
import Derived.WalkKit
import Derived.ProofKit
import Derived.OpenShut
namespace Go.Proofs.YtgfboghieejbkaaGreatDoor.fnEitherOrder
open Go.ChangeShapes Go.WideShapes Go.ChangeAt Go.RowKit
theorem closed : joinedFacts Tryz.prog 6 Tryz.f6 Rows.fnEitherOrderSpec Rows.fnEitherOrderRow = true := by kernel_rfl
end Go.Proofs.YtgfboghieejbkaaGreatDoor.fnEitherOrder
