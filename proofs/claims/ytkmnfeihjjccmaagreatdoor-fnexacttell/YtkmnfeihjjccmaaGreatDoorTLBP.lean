/- The closed facts of the row of laws.FnExactTell, asked of the program by the kernel (the rest of them). -/
import Derived.Test.YtkmnfeihjjccmaaGreatDoorTLBM
import Derived.Test.YtkmnfeihjjccmaaGreatDoorTLBN
import Derived.Test.YtkmnfeihjjccmaaGreatDoorTLBO
namespace Go.Proofs.YtkmnfeihjjccmaaGreatDoor.fnExactTell
open Go.ChangeShapes Go.WideShapes Go.ChangeAt Go.RowKit
theorem closed:joinedFacts Tryz.prog 3 Tryz.f3 Rows.fnExactTellSpec Rows.fnExactTellRow=true:=by
 unfold joinedFacts
 simp only[Bool.and_eq_true]
 repeat' apply And.intro
 all_goals first|(with_reducible exact n_)|(with_reducible exact ny)|(with_reducible exact nz)|(with_reducible exact oF)|kernel_rfl
end Go.Proofs.YtkmnfeihjjccmaaGreatDoor.fnExactTell
