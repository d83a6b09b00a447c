/- Whether what the row reaches goes of laws.FnExactNoteBytes, asked of the program by the kernel. -/
import Derived.Test.YtbigcmcliamenaaGreatDoorCards
import Derived.Test.YtbigcmcliamenaaGreatDoorTie
import Derived.WalkKit
import Derived.ProofKit
import Derived.OpenShut
namespace Go.Proofs.YtbigcmcliamenaaGreatDoor.fnExactNoteBytes
open Go.ChangeShapes Go.WideShapes Go.ChangeAt Go.RowKit
theorem goesG : false = Rows.fnExactNoteBytesRow.goesBy Tryz.prog := by kernel_rfl
end Go.Proofs.YtbigcmcliamenaaGreatDoor.fnExactNoteBytes
