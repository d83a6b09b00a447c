/- The closed facts of the row of laws.FnExactWrite, asked of the program by the kernel (the rest of them). -/
import Derived.Test.YtcjmcgolgbkknaaGreatDoorWRBN
import Derived.Test.YtcjmcgolgbkknaaGreatDoorWRBO
import Derived.Test.YtcjmcgolgbkknaaGreatDoorWRBP
namespace Go.Proofs.YtcjmcgolgbkknaaGreatDoor.fnExactWrite
open Go.ChangeShapes Go.WideShapes Go.ChangeAt Go.RowKit
theorem closed:joinedFacts Tryz.prog 4 Tryz.f4 Rows.fnExactWriteSpec Rows.fnExactWriteRow=true:=by
 unfold joinedFacts;simp only[Bool.and_eq_true]
 repeat' apply And.intro
 all_goals first|(with_reducible exact uR)|(with_reducible exact uP)|(with_reducible exact uQ)|(with_reducible exact uS)|kernel_rfl
end Go.Proofs.YtcjmcgolgbkknaaGreatDoor.fnExactWrite
