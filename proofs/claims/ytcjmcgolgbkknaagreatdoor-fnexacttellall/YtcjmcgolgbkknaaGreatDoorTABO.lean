/- The closed facts of the row of laws.FnExactTellAll, asked of the program by the kernel (what calls itself, what is named). -/
import Derived.Test.YtcjmcgolgbkknaaGreatDoorCards
import Derived.Test.YtcjmcgolgbkknaaGreatDoorTie
import Derived.WalkKit
import Derived.ProofKit
import Derived.OpenShut
namespace Go.Proofs.YtcjmcgolgbkknaaGreatDoor.fnExactTellAll
open Go.ChangeShapes Go.WideShapes Go.ChangeAt Go.RowKit
theorem nZ:(Rows.fnExactTellAllRow.recurses==Tryz.prog.recurses 5)=true:=by kernel_rfl
theorem ni:(Rows.fnExactTellAllRow.named==Tryz.prog.varsNamed 5)=true:=by kernel_rfl
end Go.Proofs.YtcjmcgolgbkknaaGreatDoor.fnExactTellAll
