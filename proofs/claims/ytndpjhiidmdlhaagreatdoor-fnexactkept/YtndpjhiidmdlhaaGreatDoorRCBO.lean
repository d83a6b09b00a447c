/- The closed facts of the row of laws.FnExactKept, asked of the program by the kernel (what calls itself, what is named). -/
import Derived.Test.YtndpjhiidmdlhaaGreatDoorCards
import Derived.Test.YtndpjhiidmdlhaaGreatDoorTie
import Derived.WalkKit
import Derived.ProofKit
import Derived.OpenShut
namespace Go.Proofs.YtndpjhiidmdlhaaGreatDoor.fnExactKept
open Go.ChangeShapes Go.WideShapes Go.ChangeAt Go.RowKit
theorem closedR : (Rows.fnExactKeptRow.recurses == Tryz.prog.recurses 5) = true := by kernel_rfl
theorem closedN : (Rows.fnExactKeptRow.named == Tryz.prog.varsNamed 5) = true := by kernel_rfl
end Go.Proofs.YtndpjhiidmdlhaaGreatDoor.fnExactKept
