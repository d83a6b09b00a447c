/- Whether what the row reaches goes of laws.FnGapsSettleNothing, asked of the program by the kernel. -/
import Derived.Test.YtgfboghieejbkaaGreatDoorCards
import Derived.Test.YtgfboghieejbkaaGreatDoorTie
import Derived.WalkKit
import Derived.ProofKit
import Derived.OpenShut
namespace Go.Proofs.YtgfboghieejbkaaGreatDoor.fnGapsSettleNothing
open Go.ChangeShapes Go.WideShapes Go.ChangeAt Go.RowKit
theorem goesG : false = Rows.fnGapsSettleNothingRow.goesBy Tryz.prog := by kernel_rfl
end Go.Proofs.YtgfboghieejbkaaGreatDoor.fnGapsSettleNothing
