/- Whether the program looks, asked by the kernel. -/
import Derived.Test.YtjdchloechcclaaGreatDoorCards
import Derived.Test.YtjdchloechcclaaGreatDoorTie
import Derived.WalkKit
import Derived.ProofKit
import Derived.OpenShut
namespace Go.Proofs.YtjdchloechcclaaGreatDoor
section
open Go.ChangeShapes Go.WideShapes Go.ChangeAt Go.RowKit
theorem looksG : true = Tryz.prog.looks [] := by kernel_rfl
end
end Go.Proofs.YtjdchloechcclaaGreatDoor
