/- The closed facts of the row of laws.FnExactRise, asked of the program by the kernel (what calls itself, what is named). -/
import Derived.Test.YtcjmcgolgbkknaaGreatDoorCards
import Derived.Test.YtcjmcgolgbkknaaGreatDoorTie
import Derived.WalkKit
import Derived.ProofKit
import Derived.OpenShut
namespace Go.Proofs.YtcjmcgolgbkknaaGreatDoor.fnExactRise
open Go.ChangeShapes Go.WideShapes Go.ChangeAt Go.RowKit
theorem uW:(Rows.fnExactRiseRow.recurses==Tryz.prog.recurses 3)=true:=by kernel_rfl
theorem uY:(Rows.fnExactRiseRow.named==Tryz.prog.varsNamed 3)=true:=by kernel_rfl
end Go.Proofs.YtcjmcgolgbkknaaGreatDoor.fnExactRise
