/- BytesOpen: a list of bytes that came in; what errors.errorType holds by the row. -/
import Derived.Test.YtcclbejpgiogaaaGreatDoorNBAD
import Derived.Test.YtcclbejpgiogaaaGreatDoorNBAC
import Derived.Test.YtcclbejpgiogaaaGreatDoorNBBH
import Derived.Test.YtcclbejpgiogaaaGreatDoorNBAF
import Derived.LaidHandle
namespace Go.Proofs.YtcclbejpgiogaaaGreatDoor
open Go.ChangeShapes Go.WideShapes Go.ChangeAt Go.RowKit
set_option linter.unusedSectionVars false
variable [∀ (a b c d : Int), Decidable (Ok4 a b c d)]
variable [∀ (n f : Int), Decidable (COk n f)]

theorem etName : Tryz.prog.globalNamed "errors.errorType" = some 0 := by kernel_rfl
theorem etRow : (Tryz.prog.cutTypes.find? (·.1 == "internal/reflectlite.rtype")).map (·.2) = some 166 := by kernel_rfl
theorem etOne : ((List.range 281).filter fun t => Tryz.prog.rowNamed t [101, 114, 114, 111, 114]) = [60] := by kernel_rfl
theorem etSize : Tryz.prog.types.size = 281 := by kernel_rfl
theorem handle_of_laid {W : World} (h : handlesMet Tryz.prog [("errors.errorType", Rows.laid_errors_errorType)] W) : EnvT W := by
 obtain ⟨name, u, ty, e1, e2, e3, e4, e5⟩ := h _ (List.mem_singleton.2 rfl)
 have en : name = [101, 114, 114, 111, 114] := (Option.some.inj e1).symm
 subst en
 obtain rfl := Option.some.inj (etRow.symm.trans e2)
 have hm : ty ∈ (List.range 281).filter fun t => Tryz.prog.rowNamed t [101, 114, 114, 111, 114] := List.mem_filter.2 ⟨List.mem_range.2 (by rw [← etSize]; exact e3), e4⟩
 rw [etOne] at hm
 obtain rfl := List.mem_singleton.1 hm
 have hh : typeHandle Tryz.prog 60 = .pointer (some ⟨8, 60, none⟩) := by kernel_rfl
 rw [hh] at e5
 unfold EnvT
 simpa using World.var?_cell etName e5 0
end Go.Proofs.YtcclbejpgiogaaaGreatDoor
