/- Whether what the row reaches goes of laws.FnSettlesThree, asked of the program by the kernel. -/
import Derived.Test.YtgfboghieejbkaaGreatDoorCards
import Derived.Test.YtgfboghieejbkaaGreatDoorTie
import Derived.WalkKit
import Derived.ProofKit
import Derived.OpenShut
namespace Go.Proofs.YtgfboghieejbkaaGreatDoor.fnSettlesThree
open Go.ChangeShapes Go.WideShapes Go.ChangeAt Go.RowKit
theorem goesG : false = Rows.fnSettlesThreeRow.goesBy Tryz.prog := by kernel_rfl
end Go.Proofs.YtgfboghieejbkaaGreatDoor.fnSettlesThree
