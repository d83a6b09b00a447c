/- Whether what the row reaches goes of laws.FnExactLastNote, asked of the program by the kernel. -/
import Derived.Test.YtbigcmcliamenaaGreatDoorCards
import Derived.Test.YtbigcmcliamenaaGreatDoorTie
import Derived.WalkKit
import Derived.ProofKit
import Derived.OpenShut
namespace Go.Proofs.YtbigcmcliamenaaGreatDoor.fnExactLastNote
open Go.ChangeShapes Go.WideShapes Go.ChangeAt Go.RowKit
theorem goesG : false = Rows.fnExactLastNoteRow.goesBy Tryz.prog := by kernel_rfl
end Go.Proofs.YtbigcmcliamenaaGreatDoor.fnExactLastNote
