/- spec.Digits: the decimal numeral. -/
import Derived.Test.YtihaecmlfmfbfaaDoorOneStr
import Derived.Test.YtihaecmlfmfbfaaDoorDigPlain
namespace Go.Proofs.YtihaecmlfmfbfaaDoor
open Go.RowKit

end Go.Proofs.YtihaecmlfmfbfaaDoor
