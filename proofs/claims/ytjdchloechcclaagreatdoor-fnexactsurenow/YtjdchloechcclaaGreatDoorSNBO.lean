/- The closed facts of the row of laws.FnExactSureNow, asked of the program by the kernel (what calls itself, what is named). -/
import Derived.Test.YtjdchloechcclaaGreatDoorCards
import Derived.Test.YtjdchloechcclaaGreatDoorTie
import Derived.WalkKit
import Derived.ProofKit
import Derived.OpenShut
namespace Go.Proofs.YtjdchloechcclaaGreatDoor.fnExactSureNow
open Go.ChangeShapes Go.WideShapes Go.ChangeAt Go.RowKit
theorem closedR : (Rows.fnExactSureNowRow.recurses == Tryz.prog.recurses 3) = true := by kernel_rfl
theorem closedN : (Rows.fnExactSureNowRow.named == Tryz.prog.varsNamed 3) = true := by kernel_rfl
end Go.Proofs.YtjdchloechcclaaGreatDoor.fnExactSureNow
