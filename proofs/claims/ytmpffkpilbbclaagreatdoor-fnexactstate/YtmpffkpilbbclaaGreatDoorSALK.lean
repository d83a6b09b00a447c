/- Whether the program looks, asked by the kernel. -/
import Derived.Test.YtmpffkpilbbclaaGreatDoorCards
import Derived.Test.YtmpffkpilbbclaaGreatDoorTie
import Derived.WalkKit
import Derived.ProofKit
import Derived.OpenShut
namespace Go.Proofs.YtmpffkpilbbclaaGreatDoor
section
open Go.ChangeShapes Go.WideShapes Go.ChangeAt Go.RowKit
theorem looksG : true = Tryz.prog.looks [] := by kernel_rfl
end
end Go.Proofs.YtmpffkpilbbclaaGreatDoor
