/- The closed facts of the row of laws.FnExactNoteBytes, asked of the program by the kernel. -/
import Derived.Test.YtbigcmcliamenaaGreatDoorCards
import Derived.Test.YtbigcmcliamenaaGreatDoorTie
import Derived.WalkKit
import Derived.ProofKit
import Derived.OpenShut
namespace Go.Proofs.YtbigcmcliamenaaGreatDoor.fnExactNoteBytes
open Go.ChangeShapes Go.WideShapes Go.ChangeAt Go.RowKit
theorem closed : joinedFacts Tryz.prog 8 Tryz.f8 Rows.fnExactNoteBytesSpec Rows.fnExactNoteBytesRow = true := by kernel_rfl
end Go.Proofs.YtbigcmcliamenaaGreatDoor.fnExactNoteBytes
