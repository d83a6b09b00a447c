/- What the program answers of sets. -/
import Derived.Test.YtjiflmkikdkdmaaSetHasImpl
import Derived.Test.YtjiflmkikdkdmaaAscInts
import Derived.Test.YtjiflmkikdkdmaaSetAddImpl
import Derived.Test.YtjiflmkikdkdmaaSetJoinImpl
namespace Go.Proofs.Ytjiflmkikdkdmaa
set_option linter.unusedSectionVars false
variable [∀ (n : Int) (s : List Int), Decidable (OkL n s)]
end Go.Proofs.Ytjiflmkikdkdmaa
