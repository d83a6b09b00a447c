/- The closed facts of the row of laws.FnExactTellAll, asked of the program by the kernel (the rest of them). -/
import Derived.Test.YtcjmcgolgbkknaaGreatDoorTABM
import Derived.Test.YtcjmcgolgbkknaaGreatDoorTABN
import Derived.Test.YtcjmcgolgbkknaaGreatDoorTABO
namespace Go.Proofs.YtcjmcgolgbkknaaGreatDoor.fnExactTellAll
open Go.ChangeShapes Go.WideShapes Go.ChangeAt Go.RowKit
theorem closed:joinedFacts Tryz.prog 5 Tryz.f5 Rows.fnExactTellAllSpec Rows.fnExactTellAllRow=true:=by
 unfold joinedFacts;simp only[Bool.and_eq_true]
 repeat' apply And.intro
 all_goals first|(with_reducible exact ng)|(with_reducible exact nW)|(with_reducible exact nZ)|(with_reducible exact ni)|kernel_rfl
end Go.Proofs.YtcjmcgolgbkknaaGreatDoor.fnExactTellAll
