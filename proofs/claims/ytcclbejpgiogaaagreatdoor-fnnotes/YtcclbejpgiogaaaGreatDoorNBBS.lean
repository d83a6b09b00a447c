/- The closed facts of the row of laws.FnNotes, asked of the program by the kernel. -/
import Derived.Test.YtcclbejpgiogaaaGreatDoorCards
import Derived.Test.YtcclbejpgiogaaaGreatDoorTie
import Derived.WalkKit
import Derived.ProofKit
import Derived.OpenShut
namespace Go.Proofs.YtcclbejpgiogaaaGreatDoor.fnNotes
open Go.ChangeShapes Go.WideShapes Go.ChangeAt Go.RowKit
theorem closed : joinedFacts Tryz.prog 3 Tryz.f3 Rows.fnNotesSpec Rows.fnNotesRow = true := by kernel_rfl
end Go.Proofs.YtcclbejpgiogaaaGreatDoor.fnNotes
