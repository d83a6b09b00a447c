/- The closed facts of the row of laws.FnExactVote, asked of the program by the kernel. -/
import Derived.Test.YtgfboghieejbkaaGreatDoorCards
import Derived.Test.YtgfboghieejbkaaGreatDoorTie
import Derived.WalkKit
import Derived.ProofKit
import Derived.OpenShut
namespace Go.Proofs.YtgfboghieejbkaaGreatDoor.fnExactVote
open Go.ChangeShapes Go.WideShapes Go.ChangeAt Go.RowKit
theorem closed : joinedFacts Tryz.prog 12 Tryz.f12 Rows.fnExactVoteSpec Rows.fnExactVoteRow = true := by kernel_rfl
end Go.Proofs.YtgfboghieejbkaaGreatDoor.fnExactVote
