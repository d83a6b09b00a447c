/- Whether what the row reaches goes of laws.FnParts, asked of the program by the kernel. -/
import Derived.Test.YtjkcphnohhpihaaGreatDoorCards
import Derived.Test.YtjkcphnohhpihaaGreatDoorTie
import Derived.WalkKit
import Derived.ProofKit
import Derived.OpenShut
namespace Go.Proofs.YtjkcphnohhpihaaGreatDoor.fnParts
open Go.ChangeShapes Go.WideShapes Go.ChangeAt Go.RowKit
theorem goesG : false = Rows.fnPartsRow.goesBy Tryz.prog := by kernel_rfl
end Go.Proofs.YtjkcphnohhpihaaGreatDoor.fnParts
