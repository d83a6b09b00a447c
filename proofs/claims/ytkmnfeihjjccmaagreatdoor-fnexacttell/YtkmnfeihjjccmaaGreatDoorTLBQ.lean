/- Whether what the row reaches goes of laws.FnExactTell, asked of the program by the kernel. -/
import Derived.Test.YtkmnfeihjjccmaaGreatDoorCards
import Derived.Test.YtkmnfeihjjccmaaGreatDoorTie
import Derived.WalkKit
import Derived.ProofKit
import Derived.OpenShut
namespace Go.Proofs.YtkmnfeihjjccmaaGreatDoor.fnExactTell
open Go.ChangeShapes Go.WideShapes Go.ChangeAt Go.RowKit
theorem xB:false=Rows.fnExactTellRow.goesBy Tryz.prog:=by kernel_rfl
end Go.Proofs.YtkmnfeihjjccmaaGreatDoor.fnExactTell
