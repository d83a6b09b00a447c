/- spec.Digits: the decimal numeral. -/
import Derived.Test.YtggmgfkmbgcooaaDoorOneStr
import Derived.Test.YtggmgfkmbgcooaaDoorDigPlain
namespace Go.Proofs.YtggmgfkmbgcooaaDoor
open Go.RowKit

end Go.Proofs.YtggmgfkmbgcooaaDoor
