/- Whether the program looks, asked by the kernel. -/
import Derived.Test.YtmpmedbojfjnaaaGreatDoorCards
import Derived.Test.YtmpmedbojfjnaaaGreatDoorTie
import Derived.WalkKit
import Derived.ProofKit
import Derived.OpenShut
namespace Go.Proofs.YtmpmedbojfjnaaaGreatDoor
open Go.ChangeShapes Go.WideShapes Go.ChangeAt Go.RowKit
theorem looksG : true = Tryz.prog.looks [] := by kernel_rfl
end Go.Proofs.YtmpmedbojfjnaaaGreatDoor
