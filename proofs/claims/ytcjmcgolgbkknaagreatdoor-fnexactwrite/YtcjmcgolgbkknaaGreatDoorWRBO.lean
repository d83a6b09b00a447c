/- The closed facts of the row of laws.FnExactWrite, asked of the program by the kernel (what is not followed). -/
import Derived.Test.YtcjmcgolgbkknaaGreatDoorCards
import Derived.Test.YtcjmcgolgbkknaaGreatDoorTie
import Derived.WalkKit
import Derived.ProofKit
import Derived.OpenShut
namespace Go.Proofs.YtcjmcgolgbkknaaGreatDoor.fnExactWrite
open Go.ChangeShapes Go.WideShapes Go.ChangeAt Go.RowKit
theorem uP:(Rows.fnExactWriteRow.unfollowed==Tryz.prog.unfollowed 4)=true:=by kernel_rfl
end Go.Proofs.YtcjmcgolgbkknaaGreatDoor.fnExactWrite
