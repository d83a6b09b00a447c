/- The closed facts of the row of laws.FnExactTell, asked of the program by the kernel (what is not followed). -/
import Derived.Test.YtkmnfeihjjccmaaGreatDoorCards
import Derived.Test.YtkmnfeihjjccmaaGreatDoorTie
import Derived.WalkKit
import Derived.ProofKit
import Derived.OpenShut
namespace Go.Proofs.YtkmnfeihjjccmaaGreatDoor.fnExactTell
open Go.ChangeShapes Go.WideShapes Go.ChangeAt Go.RowKit
theorem ny:(Rows.fnExactTellRow.unfollowed==Tryz.prog.unfollowed 3)=true:=by kernel_rfl
end Go.Proofs.YtkmnfeihjjccmaaGreatDoor.fnExactTell
