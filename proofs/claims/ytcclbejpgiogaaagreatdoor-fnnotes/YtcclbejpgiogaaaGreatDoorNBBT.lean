/- Whether what the row reaches goes of laws.FnNotes, asked of the program by the kernel. -/
import Derived.Test.YtcclbejpgiogaaaGreatDoorCards
import Derived.Test.YtcclbejpgiogaaaGreatDoorTie
import Derived.WalkKit
import Derived.ProofKit
import Derived.OpenShut
namespace Go.Proofs.YtcclbejpgiogaaaGreatDoor.fnNotes
open Go.ChangeShapes Go.WideShapes Go.ChangeAt Go.RowKit
theorem goesG : false = Rows.fnNotesRow.goesBy Tryz.prog := by kernel_rfl
end Go.Proofs.YtcclbejpgiogaaaGreatDoor.fnNotes
