/- Whether what the row reaches goes of laws.FnExactSureNow, asked of the program by the kernel. -/
import Derived.Test.YtjdchloechcclaaGreatDoorCards
import Derived.Test.YtjdchloechcclaaGreatDoorTie
import Derived.WalkKit
import Derived.ProofKit
import Derived.OpenShut
namespace Go.Proofs.YtjdchloechcclaaGreatDoor.fnExactSureNow
open Go.ChangeShapes Go.WideShapes Go.ChangeAt Go.RowKit
theorem goesG : false = Rows.fnExactSureNowRow.goesBy Tryz.prog := by kernel_rfl
end Go.Proofs.YtjdchloechcclaaGreatDoor.fnExactSureNow
