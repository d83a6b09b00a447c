/- QcLater and QcFirst of the program and of the specification. -/
import Derived.Test.YtgfboghieejbkaaQcLater
namespace Go.Proofs.Ytgfboghieejbkaa
open Go.RowKit

set_option maxHeartbeats 1600000 in
set_option maxRecDepth 100000 in
theorem implQcFirst (w : World) : Calls Try.prog 14 #[] w fun e w' => e = .returned (qv 0 ⟨#[]⟩ (.slice none 0 0)) ∧ Below w.heap.size w w' := by
  go_enter Try.func14, Try.ntmps14
  go_wp2
  refine bodyPost_ret (v := qv 0 ⟨#[]⟩ (.slice none 0 0)) (by simp [results, Try.results14, go_sem]) rfl ?_
  exact ⟨rfl, qalloc _ _⟩
end Go.Proofs.Ytgfboghieejbkaa
