/- The closed facts of the row of laws.FnExactRise, asked of the program by the kernel (the rest of them). -/
import Derived.Test.YtcjmcgolgbkknaaGreatDoorRSBP
import Derived.Test.YtcjmcgolgbkknaaGreatDoorRSBQ
import Derived.Test.YtcjmcgolgbkknaaGreatDoorRSBR
namespace Go.Proofs.YtcjmcgolgbkknaaGreatDoor.fnExactRise
open Go.ChangeShapes Go.WideShapes Go.ChangeAt Go.RowKit
theorem closed:joinedFacts Tryz.prog 3 Tryz.f3 Rows.fnExactRiseSpec Rows.fnExactRiseRow=true:=by
 unfold joinedFacts;simp only[Bool.and_eq_true]
 repeat' apply And.intro
 all_goals first|(with_reducible exact uX)|(with_reducible exact uV)|(with_reducible exact uW)|(with_reducible exact uY)|kernel_rfl
end Go.Proofs.YtcjmcgolgbkknaaGreatDoor.fnExactRise
