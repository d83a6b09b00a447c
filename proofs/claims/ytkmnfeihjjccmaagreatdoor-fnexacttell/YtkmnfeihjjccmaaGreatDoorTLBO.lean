/- The closed facts of the row of laws.FnExactTell, asked of the program by the kernel (what calls itself, what is named). -/
import Derived.Test.YtkmnfeihjjccmaaGreatDoorCards
import Derived.Test.YtkmnfeihjjccmaaGreatDoorTie
import Derived.WalkKit
import Derived.ProofKit
import Derived.OpenShut
namespace Go.Proofs.YtkmnfeihjjccmaaGreatDoor.fnExactTell
open Go.ChangeShapes Go.WideShapes Go.ChangeAt Go.RowKit
theorem nz:(Rows.fnExactTellRow.recurses==Tryz.prog.recurses 3)=true:=by kernel_rfl
theorem oF:(Rows.fnExactTellRow.named==Tryz.prog.varsNamed 3)=true:=by kernel_rfl
end Go.Proofs.YtkmnfeihjjccmaaGreatDoor.fnExactTell
