/- The closed facts of the row of laws.FnExactSureNow, asked of the program by the kernel (the rest of them). -/
import Derived.Test.YtjdchloechcclaaGreatDoorSNBM
import Derived.Test.YtjdchloechcclaaGreatDoorSNBN
import Derived.Test.YtjdchloechcclaaGreatDoorSNBO
namespace Go.Proofs.YtjdchloechcclaaGreatDoor.fnExactSureNow
open Go.ChangeShapes Go.WideShapes Go.ChangeAt Go.RowKit
theorem closed : joinedFacts Tryz.prog 3 Tryz.f3 Rows.fnExactSureNowSpec Rows.fnExactSureNowRow = true := by
 unfold joinedFacts
 simp only [Bool.and_eq_true]
 repeat' apply And.intro
 all_goals first | (with_reducible exact closedP) | (with_reducible exact closedU) | (with_reducible exact closedR) | (with_reducible exact closedN) | kernel_rfl
end Go.Proofs.YtjdchloechcclaaGreatDoor.fnExactSureNow
