/- A text of one byte. -/
import Derived.Test.YtihaecmlfmfbfaaDoorBase
import Derived.Laws.BytesArg
namespace Go.Proofs.YtihaecmlfmfbfaaDoor
open Go.RowKit

theorem one_str (w : World) (c : Int) : (convert 67 9 (.slice (some ⟨w.heap.size, 0, none⟩) 1 1)).run Tryd.prog (w.alloc (.cells #[.int .u8 c] 5)) = .ok (.string (strOfNums [c])) (w.alloc (.cells #[.int .u8 c] 5)) := by
  refine run_convert_bytes_arg (P := Tryd.prog) _ 67 5 Tryd.underlying67 Tryd.underlying5 w.heap.size 0 1 1 [c] rfl (fun i hi => ?_) 9 Tryd.underlying9
  obtain rfl : i = 0 := by omega
  simp
end Go.Proofs.YtihaecmlfmfbfaaDoor
