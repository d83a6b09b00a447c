/- Whether what the row reaches goes of laws.FnExactSafeOf, asked of the program by the kernel. -/
import Derived.Test.YtbigcmcliamenaaGreatDoorCards
import Derived.Test.YtbigcmcliamenaaGreatDoorTie
import Derived.WalkKit
import Derived.ProofKit
import Derived.OpenShut
namespace Go.Proofs.YtbigcmcliamenaaGreatDoor.fnExactSafeOf
open Go.ChangeShapes Go.WideShapes Go.ChangeAt Go.RowKit
theorem goesG : false = Rows.fnExactSafeOfRow.goesBy Tryz.prog := by kernel_rfl
end Go.Proofs.YtbigcmcliamenaaGreatDoor.fnExactSafeOf
