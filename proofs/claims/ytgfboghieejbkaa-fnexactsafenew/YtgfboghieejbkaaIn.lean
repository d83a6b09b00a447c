/- spec.l1In: whether a number lies between two. -/
import Derived.Test.YtgfboghieejbkaaBase
namespace Go.Proofs.Ytgfboghieejbkaa
open Go.RowKit

end Go.Proofs.Ytgfboghieejbkaa
