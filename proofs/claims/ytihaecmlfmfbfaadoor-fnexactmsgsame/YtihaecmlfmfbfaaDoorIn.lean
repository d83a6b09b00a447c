/- spec.l1In: whether a number lies between two. -/
import Derived.Test.YtihaecmlfmfbfaaDoorBase
namespace Go.Proofs.YtihaecmlfmfbfaaDoor
open Go.RowKit

end Go.Proofs.YtihaecmlfmfbfaaDoor
