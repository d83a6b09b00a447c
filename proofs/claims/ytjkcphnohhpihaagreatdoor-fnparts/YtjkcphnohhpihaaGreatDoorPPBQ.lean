/- The closed facts of the row of laws.FnParts, asked of the program by the kernel. -/
import Derived.Test.YtjkcphnohhpihaaGreatDoorCards
import Derived.Test.YtjkcphnohhpihaaGreatDoorTie
import Derived.WalkKit
import Derived.ProofKit
import Derived.OpenShut
namespace Go.Proofs.YtjkcphnohhpihaaGreatDoor.fnParts
open Go.ChangeShapes Go.WideShapes Go.ChangeAt Go.RowKit
theorem closed : joinedFacts Tryz.prog 4 Tryz.f4 Rows.fnPartsSpec Rows.fnPartsRow = true := by kernel_rfl
end Go.Proofs.YtjkcphnohhpihaaGreatDoor.fnParts
