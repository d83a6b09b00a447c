/- The closed facts of the row of laws.FnExactRise, asked of the program by the kernel (what is not followed). -/
import Derived.Test.YtcjmcgolgbkknaaGreatDoorCards
import Derived.Test.YtcjmcgolgbkknaaGreatDoorTie
import Derived.WalkKit
import Derived.ProofKit
import Derived.OpenShut
namespace Go.Proofs.YtcjmcgolgbkknaaGreatDoor.fnExactRise
open Go.ChangeShapes Go.WideShapes Go.ChangeAt Go.RowKit
theorem uV:(Rows.fnExactRiseRow.unfollowed==Tryz.prog.unfollowed 3)=true:=by kernel_rfl
end Go.Proofs.YtcjmcgolgbkknaaGreatDoor.fnExactRise
