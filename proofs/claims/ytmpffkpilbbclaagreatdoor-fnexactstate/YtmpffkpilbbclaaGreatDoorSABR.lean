/- Whether what the row reaches goes of laws.FnExactState, asked of the program by the kernel. -/
import Derived.Test.YtmpffkpilbbclaaGreatDoorCards
import Derived.Test.YtmpffkpilbbclaaGreatDoorTie
import Derived.WalkKit
import Derived.ProofKit
import Derived.OpenShut
namespace Go.Proofs.YtmpffkpilbbclaaGreatDoor.fnExactState
open Go.ChangeShapes Go.WideShapes Go.ChangeAt Go.RowKit
theorem goesG : false = Rows.fnExactStateRow.goesBy Tryz.prog := by kernel_rfl
end Go.Proofs.YtmpffkpilbbclaaGreatDoor.fnExactState
