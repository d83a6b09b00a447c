/- Whether the program looks, asked by the kernel. -/
import Derived.Test.YtcclbejpgiogaaaGreatDoorCards
import Derived.Test.YtcclbejpgiogaaaGreatDoorTie
import Derived.WalkKit
import Derived.ProofKit
import Derived.OpenShut
namespace Go.Proofs.YtcclbejpgiogaaaGreatDoor
open Go.ChangeShapes Go.WideShapes Go.ChangeAt Go.RowKit
theorem looksG : true = Tryz.prog.looks [] := by kernel_rfl
end Go.Proofs.YtcclbejpgiogaaaGreatDoor
