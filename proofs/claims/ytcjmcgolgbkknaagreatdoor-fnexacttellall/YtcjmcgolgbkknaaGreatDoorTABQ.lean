/- Whether what the row reaches goes of laws.FnExactTellAll, asked of the program by the kernel. -/
import Derived.Test.YtcjmcgolgbkknaaGreatDoorCards
import Derived.Test.YtcjmcgolgbkknaaGreatDoorTie
import Derived.WalkKit
import Derived.ProofKit
import Derived.OpenShut
namespace Go.Proofs.YtcjmcgolgbkknaaGreatDoor.fnExactTellAll
open Go.ChangeShapes Go.WideShapes Go.ChangeAt Go.RowKit
theorem wu:false=Rows.fnExactTellAllRow.goesBy Tryz.prog:=by kernel_rfl
end Go.Proofs.YtcjmcgolgbkknaaGreatDoor.fnExactTellAll
