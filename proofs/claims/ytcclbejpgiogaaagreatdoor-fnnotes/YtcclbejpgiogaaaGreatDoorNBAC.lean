/- A Conf and a certificate that came in. -/
import Derived.Test.YtcclbejpgiogaaaGreatDoorNBAA
import Derived.Test.YtcclbejpgiogaaaGreatDoorNBAB
import Derived.WalkKit
import Derived.ProofKit
import Derived.OpenShut
import Derived.ShutString
import Derived.ChangeMaps5
import Derived.ChangeOld
import Derived.Below
import Derived.Lib.SmallJoins
namespace Go.Proofs.YtcclbejpgiogaaaGreatDoor
open Go.ChangeShapes Go.WideShapes Go.ChangeAt Go.RowKit
open Go.Joins
set_option linter.unusedSectionVars false
variable [∀ (a b c d : Int), Decidable (Ok4 a b c d)]
variable [∀ (n f : Int), Decidable (COk n f)]

theorem own : ownKnob Tryz.prog.godebug = none := by kernel_rfl
theorem laidOut : laidOutB Tryz.prog = true := by kernel_rfl
def AIW (W : World) (ao : Option Addr) (xs : List Int) : Prop := xs = [] ∨ ∃ b off, ao = some ⟨b, off, none⟩ ∧ ∀ k, k < xs.length → W.cell? ⟨b, off + k, none⟩ = some (.int .i64 (xs.getD k 0))
theorem AIW.ri {W : World} {ao : Option Addr} {ca : Nat} {xs : List Int} (h : AIW W ao xs) (hl : xs.length ≤ 4194304) : RI W (.slice ao xs.length ca) xs := ⟨hl, ao, ca, rfl, h⟩
end Go.Proofs.YtcclbejpgiogaaaGreatDoor
