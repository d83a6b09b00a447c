/- The closed facts of the row of laws.FnSettlesThree, asked of the program by the kernel. -/
import Derived.Test.YtgfboghieejbkaaGreatDoorCards
import Derived.Test.YtgfboghieejbkaaGreatDoorTie
import Derived.WalkKit
import Derived.ProofKit
import Derived.OpenShut
namespace Go.Proofs.YtgfboghieejbkaaGreatDoor.fnSettlesThree
open Go.ChangeShapes Go.WideShapes Go.ChangeAt Go.RowKit
theorem closed : joinedFacts Tryz.prog 7 Tryz.f7 Rows.fnSettlesThreeSpec Rows.fnSettlesThreeRow = true := by kernel_rfl
end Go.Proofs.YtgfboghieejbkaaGreatDoor.fnSettlesThree
