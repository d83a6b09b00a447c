/- What the listed variable errNoNumber gives; a list of bytes that came in. -/
import Derived.Test.YtjdchloechcclaaGreatDoorSNAC
import Derived.LaidMore
import Derived.Stop.Joined
import Derived.Stop.LaidErr
set_option linter.unusedSectionVars false
namespace Go.Proofs.YtjdchloechcclaaGreatDoor
section
open Go.ChangeShapes Go.WideShapes Go.ChangeAt Go.RowKit
variable [∀ (a b c d : Int), Decidable (Ok4 a b c d)]
variable [∀ (n f : Int), Decidable (COk n f)]
theorem gE : Tryz.prog.globalNamed "loop.example/g00448/impl.errNoNumber" = some 2 := by kernel_rfl
theorem gEType : (Tryz.prog.globals[2]?).map (·.type) = some 229 := by kernel_rfl
theorem cellsES : Tryz.prog.cellsOf 369 = 1 := by kernel_rfl
theorem cellsS : Tryz.prog.cellsOf 9 = 1 := by kernel_rfl
theorem star : "*" ++ "errors.errorString" = "*errors.errorString" := by decide
theorem rowES (u : TypeId) (h : Tryz.prog.typeName? 3 u = some "*errors.errorString") : u = 367 :=
 typeName_ptr_named (nm := "errors.errorString") (by rw [star]; kernel_rfl) (by kernel_rfl) (by decide) u (by rw [star]; exact h)
end
end Go.Proofs.YtjdchloechcclaaGreatDoor
