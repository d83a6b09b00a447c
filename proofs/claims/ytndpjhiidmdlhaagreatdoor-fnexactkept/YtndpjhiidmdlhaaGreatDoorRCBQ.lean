/- Whether what the row reaches goes of laws.FnExactKept, asked of the program by the kernel. -/
import Derived.Test.YtndpjhiidmdlhaaGreatDoorCards
import Derived.Test.YtndpjhiidmdlhaaGreatDoorTie
import Derived.WalkKit
import Derived.ProofKit
import Derived.OpenShut
namespace Go.Proofs.YtndpjhiidmdlhaaGreatDoor.fnExactKept
open Go.ChangeShapes Go.WideShapes Go.ChangeAt Go.RowKit
theorem goesG : false = Rows.fnExactKeptRow.goesBy Tryz.prog := by kernel_rfl
end Go.Proofs.YtndpjhiidmdlhaaGreatDoor.fnExactKept
