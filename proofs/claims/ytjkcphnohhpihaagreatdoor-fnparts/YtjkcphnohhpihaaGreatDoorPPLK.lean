/- Whether the program looks, asked by the kernel. -/
import Derived.Test.YtjkcphnohhpihaaGreatDoorCards
import Derived.Test.YtjkcphnohhpihaaGreatDoorTie
import Derived.WalkKit
import Derived.ProofKit
import Derived.OpenShut
namespace Go.Proofs.YtjkcphnohhpihaaGreatDoor
section
open Go.ChangeShapes Go.WideShapes Go.ChangeAt Go.RowKit
theorem looksG : true = Tryz.prog.looks [] := by kernel_rfl
end
end Go.Proofs.YtjkcphnohhpihaaGreatDoor
