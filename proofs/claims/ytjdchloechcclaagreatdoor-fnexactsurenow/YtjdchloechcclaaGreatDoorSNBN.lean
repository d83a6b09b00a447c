/- The closed facts of the row of laws.FnExactSureNow, asked of the program by the kernel (what is not followed). -/
import Derived.Test.YtjdchloechcclaaGreatDoorCards
import Derived.Test.YtjdchloechcclaaGreatDoorTie
import Derived.WalkKit
import Derived.ProofKit
import Derived.OpenShut
namespace Go.Proofs.YtjdchloechcclaaGreatDoor.fnExactSureNow
open Go.ChangeShapes Go.WideShapes Go.ChangeAt Go.RowKit
theorem closedU : (Rows.fnExactSureNowRow.unfollowed == Tryz.prog.unfollowed 3) = true := by kernel_rfl
end Go.Proofs.YtjdchloechcclaaGreatDoor.fnExactSureNow
