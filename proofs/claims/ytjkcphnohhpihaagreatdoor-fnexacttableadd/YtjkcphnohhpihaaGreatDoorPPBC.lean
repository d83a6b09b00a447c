/- The closed facts of the row of laws.FnExactTableAdd, asked of the program by the kernel. -/
import Derived.Test.YtjkcphnohhpihaaGreatDoorCards
import Derived.Test.YtjkcphnohhpihaaGreatDoorTie
import Derived.WalkKit
import Derived.ProofKit
import Derived.OpenShut
namespace Go.Proofs.YtjkcphnohhpihaaGreatDoor.fnExactTableAdd
open Go.ChangeShapes Go.WideShapes Go.ChangeAt Go.RowKit
theorem closed : joinedFacts Tryz.prog 3 Tryz.f3 Rows.fnExactTableAddSpec Rows.fnExactTableAddRow = true := by kernel_rfl
end Go.Proofs.YtjkcphnohhpihaaGreatDoor.fnExactTableAdd
