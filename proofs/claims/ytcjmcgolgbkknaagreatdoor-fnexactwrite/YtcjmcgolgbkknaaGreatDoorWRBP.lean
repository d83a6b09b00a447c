/- The closed facts of the row of laws.FnExactWrite, asked of the program by the kernel (what calls itself, what is named). -/
import Derived.Test.YtcjmcgolgbkknaaGreatDoorCards
import Derived.Test.YtcjmcgolgbkknaaGreatDoorTie
import Derived.WalkKit
import Derived.ProofKit
import Derived.OpenShut
namespace Go.Proofs.YtcjmcgolgbkknaaGreatDoor.fnExactWrite
open Go.ChangeShapes Go.WideShapes Go.ChangeAt Go.RowKit
theorem uQ:(Rows.fnExactWriteRow.recurses==Tryz.prog.recurses 4)=true:=by kernel_rfl
theorem uS:(Rows.fnExactWriteRow.named==Tryz.prog.varsNamed 4)=true:=by kernel_rfl
end Go.Proofs.YtcjmcgolgbkknaaGreatDoor.fnExactWrite
