/- Whether the program looks, asked by the kernel. -/
import Derived.Test.YtcjmcgolgbkknaaGreatDoorCards
import Derived.Test.YtcjmcgolgbkknaaGreatDoorTie
import Derived.WalkKit
import Derived.ProofKit
import Derived.OpenShut
namespace Go.Proofs.YtcjmcgolgbkknaaGreatDoor
section
open Go.ChangeShapes Go.WideShapes Go.ChangeAt Go.RowKit
theorem rM:true=Tryz.prog.looks []:=by kernel_rfl
end
end Go.Proofs.YtcjmcgolgbkknaaGreatDoor
