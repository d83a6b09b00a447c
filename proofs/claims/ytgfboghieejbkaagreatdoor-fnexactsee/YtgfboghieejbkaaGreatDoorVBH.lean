/- The closed facts of the row of laws.FnExactSee, asked of the program by the kernel. -/
import Derived.Test.YtgfboghieejbkaaGreatDoorCards
import Derived.Test.YtgfboghieejbkaaGreatDoorTie
import Derived.WalkKit
import Derived.ProofKit
import Derived.OpenShut
namespace Go.Proofs.YtgfboghieejbkaaGreatDoor.fnExactSee
open Go.ChangeShapes Go.WideShapes Go.ChangeAt Go.RowKit
theorem closed : joinedFacts Tryz.prog 10 Tryz.f10 Rows.fnExactSeeSpec Rows.fnExactSeeRow = true := by kernel_rfl
end Go.Proofs.YtgfboghieejbkaaGreatDoor.fnExactSee
