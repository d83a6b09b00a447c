/- Whether what the row reaches goes of laws.FnExactVote, asked of the program by the kernel. -/
import Derived.Test.YtgfboghieejbkaaGreatDoorCards
import Derived.Test.YtgfboghieejbkaaGreatDoorTie
import Derived.WalkKit
import Derived.ProofKit
import Derived.OpenShut
namespace Go.Proofs.YtgfboghieejbkaaGreatDoor.fnExactVote
open Go.ChangeShapes Go.WideShapes Go.ChangeAt Go.RowKit
theorem goesG : false = Rows.fnExactVoteRow.goesBy Tryz.prog := by kernel_rfl
end Go.Proofs.YtgfboghieejbkaaGreatDoor.fnExactVote
