/- Total of the program and of the specification. -/
import Derived.Test.YthdehhenkgkkmaaLedger
namespace Go.Proofs.Ythdehhenkgkkmaa
open Go.RowKit
set_option linter.unusedSectionVars false

/-- The sum of a list, by int's own adding. -/
def tot (xs : List Int) : Int := xs.foldl (fun a x => wrap64 (a + x)) 0
theorem tot_succ (xs : List Int) (k : Nat) (h : k < xs.length) : tot (xs.take (k + 1)) = wrap64 (tot (xs.take k) + xs.getD k 0) := by
  unfold tot
  rw [List.take_succ_eq_append_getElem h, List.getD_eq_getElem?_getD, List.getElem?_eq_getElem h, List.foldl_append]
  rfl

end Go.Proofs.Ythdehhenkgkkmaa
