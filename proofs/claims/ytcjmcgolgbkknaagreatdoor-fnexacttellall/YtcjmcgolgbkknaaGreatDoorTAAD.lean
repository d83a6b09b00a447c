/- What the listed variable errNoNumber gives; a list of bytes that came in. -/
import Derived.Test.YtcjmcgolgbkknaaGreatDoorTAAC
import Derived.LaidMore
import Derived.Stop.Joined
import Derived.Stop.LaidErr
set_option linter.unusedSectionVars false
namespace Go.Proofs.YtcjmcgolgbkknaaGreatDoor
section
open Go.ChangeShapes Go.WideShapes Go.ChangeAt Go.RowKit
variable [∀(a b c d:Int),Decidable (BG a b c d)] [∀(n f:Int),Decidable (A_ n f)]
theorem gE : Tryz.prog.globalNamed "loop.example/g00448/impl.errNoNumber" = some 1 := by kernel_rfl
theorem YT:(Tryz.prog.globals[1]?).map (·.type)=some 195:=by kernel_rfl
theorem Sr:Tryz.prog.cellsOf 382=1:=by kernel_rfl
theorem cellsS:Tryz.prog.cellsOf 9=1:=by kernel_rfl
theorem star : "*" ++ "errors.errorString" = "*errors.errorString" := by decide
theorem g_ (u : TypeId) (h : Tryz.prog.typeName? 3 u = some "*errors.errorString") : u = 380 :=
 typeName_ptr_named (nm := "errors.errorString") (by rw [star]; kernel_rfl) (by kernel_rfl) (by decide) u (by rw [star]; exact h)
end
end Go.Proofs.YtcjmcgolgbkknaaGreatDoor
