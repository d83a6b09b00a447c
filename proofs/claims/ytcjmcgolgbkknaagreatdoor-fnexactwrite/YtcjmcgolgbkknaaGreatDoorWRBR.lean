/- Whether what the row reaches goes of laws.FnExactWrite, asked of the program by the kernel. -/
import Derived.Test.YtcjmcgolgbkknaaGreatDoorCards
import Derived.Test.YtcjmcgolgbkknaaGreatDoorTie
import Derived.WalkKit
import Derived.ProofKit
import Derived.OpenShut
namespace Go.Proofs.YtcjmcgolgbkknaaGreatDoor.fnExactWrite
open Go.ChangeShapes Go.WideShapes Go.ChangeAt Go.RowKit
theorem AA0:false=Rows.fnExactWriteRow.goesBy Tryz.prog:=by kernel_rfl
end Go.Proofs.YtcjmcgolgbkknaaGreatDoor.fnExactWrite
