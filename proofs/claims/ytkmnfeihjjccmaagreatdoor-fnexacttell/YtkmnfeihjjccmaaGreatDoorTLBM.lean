/- The closed facts of the row of laws.FnExactTell, asked of the program by the kernel (what is turned in place). -/
import Derived.Test.YtkmnfeihjjccmaaGreatDoorCards
import Derived.Test.YtkmnfeihjjccmaaGreatDoorTie
import Derived.WalkKit
import Derived.ProofKit
import Derived.OpenShut
namespace Go.Proofs.YtkmnfeihjjccmaaGreatDoor.fnExactTell
open Go.ChangeShapes Go.WideShapes Go.ChangeAt Go.RowKit
theorem n_:(Rows.fnExactTellRow.inPlace==Tryz.prog.inPlace 3)=true:=by kernel_rfl
end Go.Proofs.YtkmnfeihjjccmaaGreatDoor.fnExactTell
