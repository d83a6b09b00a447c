/- A text of one byte. -/
import Derived.Test.YtehdchpolgihlaaBase
import Derived.Laws.BytesArg
namespace Go.Proofs.Ytehdchpolgihlaa
open Go.RowKit

theorem one_str (w : World) (c : Int) : (convert 22 9 (.slice (some ⟨w.heap.size, 0, none⟩) 1 1)).run Try.prog (w.alloc (.cells #[.int .u8 c] 5)) = .ok (.string (strOfNums [c])) (w.alloc (.cells #[.int .u8 c] 5)) := by
  refine run_convert_bytes_arg (P := Try.prog) _ 22 5 Try.underlying22 Try.underlying5 w.heap.size 0 1 1 [c] rfl (fun i hi => ?_) 9 Try.underlying9
  obtain rfl : i = 0 := by omega
  simp
end Go.Proofs.Ytehdchpolgihlaa
