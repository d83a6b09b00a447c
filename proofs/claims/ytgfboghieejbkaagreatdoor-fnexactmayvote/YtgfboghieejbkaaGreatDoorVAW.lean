/- The closed facts of the row of laws.FnExactMayVote, asked of the program by the kernel. -/
import Derived.Test.YtgfboghieejbkaaGreatDoorCards
import Derived.Test.YtgfboghieejbkaaGreatDoorTie
import Derived.WalkKit
import Derived.ProofKit
import Derived.OpenShut
namespace Go.Proofs.YtgfboghieejbkaaGreatDoor.fnExactMayVote
open Go.ChangeShapes Go.WideShapes Go.ChangeAt Go.RowKit
theorem closed : joinedFacts Tryz.prog 11 Tryz.f11 Rows.fnExactMayVoteSpec Rows.fnExactMayVoteRow = true := by kernel_rfl
end Go.Proofs.YtgfboghieejbkaaGreatDoor.fnExactMayVote
