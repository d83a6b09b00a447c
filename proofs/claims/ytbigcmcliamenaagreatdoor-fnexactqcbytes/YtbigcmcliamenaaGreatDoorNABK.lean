/- Whether what the row reaches goes of laws.FnExactQcBytes, asked of the program by the kernel. -/
import Derived.Test.YtbigcmcliamenaaGreatDoorCards
import Derived.Test.YtbigcmcliamenaaGreatDoorTie
import Derived.WalkKit
import Derived.ProofKit
import Derived.OpenShut
namespace Go.Proofs.YtbigcmcliamenaaGreatDoor.fnExactQcBytes
open Go.ChangeShapes Go.WideShapes Go.ChangeAt Go.RowKit
theorem goesG : false = Rows.fnExactQcBytesRow.goesBy Tryz.prog := by kernel_rfl
end Go.Proofs.YtbigcmcliamenaaGreatDoor.fnExactQcBytes
