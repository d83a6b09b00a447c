/- QcLater of the specification. -/
import Derived.Test.YtgfboghieejbkaaQcOut
namespace Go.Proofs.Ytgfboghieejbkaa
open Go.RowKit

end Go.Proofs.Ytgfboghieejbkaa
