/- The closed facts of the row of laws.FnExactLastNote, asked of the program by the kernel. -/
import Derived.Test.YtbigcmcliamenaaGreatDoorCards
import Derived.Test.YtbigcmcliamenaaGreatDoorTie
import Derived.WalkKit
import Derived.ProofKit
import Derived.OpenShut
namespace Go.Proofs.YtbigcmcliamenaaGreatDoor.fnExactLastNote
open Go.ChangeShapes Go.WideShapes Go.ChangeAt Go.RowKit
theorem closed : joinedFacts Tryz.prog 9 Tryz.f9 Rows.fnExactLastNoteSpec Rows.fnExactLastNoteRow = true := by kernel_rfl
end Go.Proofs.YtbigcmcliamenaaGreatDoor.fnExactLastNote
