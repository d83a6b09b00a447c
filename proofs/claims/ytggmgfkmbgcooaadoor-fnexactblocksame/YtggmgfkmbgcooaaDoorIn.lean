/- spec.l1In: whether a number lies between two. -/
import Derived.Test.YtggmgfkmbgcooaaDoorBase
namespace Go.Proofs.YtggmgfkmbgcooaaDoor
open Go.RowKit

end Go.Proofs.YtggmgfkmbgcooaaDoor
