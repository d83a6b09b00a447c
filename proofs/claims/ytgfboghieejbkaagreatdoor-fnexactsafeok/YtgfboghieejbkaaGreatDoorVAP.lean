/- The closed facts of the row of laws.FnExactSafeOk, asked of the program by the kernel. -/
import Derived.Test.YtgfboghieejbkaaGreatDoorCards
import Derived.Test.YtgfboghieejbkaaGreatDoorTie
import Derived.WalkKit
import Derived.ProofKit
import Derived.OpenShut
namespace Go.Proofs.YtgfboghieejbkaaGreatDoor.fnExactSafeOk
open Go.ChangeShapes Go.WideShapes Go.ChangeAt Go.RowKit
theorem closed : joinedFacts Tryz.prog 9 Tryz.f9 Rows.fnExactSafeOkSpec Rows.fnExactSafeOkRow = true := by kernel_rfl
end Go.Proofs.YtgfboghieejbkaaGreatDoor.fnExactSafeOk
