/- A block that came in. -/
import Derived.Test.YtgfboghieejbkaaQcOpen
import Derived.Test.YtgfboghieejbkaaBlk
import Derived.Deep.Strs
namespace Go.Proofs.Ytgfboghieejbkaa
open Go.ChangeShapes Go.WideShapes Go.ChangeAt Go.RowKit
open Go.Joins
set_option linter.unusedSectionVars false
variable [∀ (a b c d : Int), Decidable (Ok4 a b c d)]
variable [∀ (n f : Int), Decidable (COk n f)]

theorem cellsStr : Try.prog.cellsOf 9 = 1 := by kernel_rfl
theorem cellsInt : Try.prog.cellsOf 3 = 1 := by kernel_rfl
theorem cellsInts : Try.prog.cellsOf 22 = 1 := by kernel_rfl
end Go.Proofs.Ytgfboghieejbkaa
