/- Whether the program looks, asked by the kernel. -/
import Derived.Test.YtkmnfeihjjccmaaGreatDoorCards
import Derived.Test.YtkmnfeihjjccmaaGreatDoorTie
import Derived.WalkKit
import Derived.ProofKit
import Derived.OpenShut
namespace Go.Proofs.YtkmnfeihjjccmaaGreatDoor
section
open Go.ChangeShapes Go.WideShapes Go.ChangeAt Go.RowKit
theorem rY:true=Tryz.prog.looks []:=by kernel_rfl
end
end Go.Proofs.YtkmnfeihjjccmaaGreatDoor
