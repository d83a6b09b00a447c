/- The closed facts of the row of laws.FnExactState, asked of the program by the kernel (what calls itself, what is named). -/
import Derived.Test.YtmpffkpilbbclaaGreatDoorCards
import Derived.Test.YtmpffkpilbbclaaGreatDoorTie
import Derived.WalkKit
import Derived.ProofKit
import Derived.OpenShut
namespace Go.Proofs.YtmpffkpilbbclaaGreatDoor.fnExactState
open Go.ChangeShapes Go.WideShapes Go.ChangeAt Go.RowKit
theorem closedR : (Rows.fnExactStateRow.recurses == Tryz.prog.recurses 4) = true := by kernel_rfl
theorem closedN : (Rows.fnExactStateRow.named == Tryz.prog.varsNamed 4) = true := by kernel_rfl
end Go.Proofs.YtmpffkpilbbclaaGreatDoor.fnExactState
