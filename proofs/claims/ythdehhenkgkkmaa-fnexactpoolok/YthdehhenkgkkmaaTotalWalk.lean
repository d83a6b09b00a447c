/- The walk of laws.FnExactTotal. -/
import Derived.Test.YthdehhenkgkkmaaTotal
import Derived.Deep.RegionHeld3
namespace Go.Proofs.Ythdehhenkgkkmaa
open Go.RowKit
set_option linter.unusedSectionVars false

/-- A list of numbers that came in. -/
def AI (w : World) (ao : Option Addr) (xs : List Int) : Prop := xs = [] ∨ ∃ b off, ao = some ⟨b, off, none⟩ ∧ ∀ k, k < xs.length → w.cell? ⟨b, off + k, none⟩ = some (.int .i64 (xs.getD k 0))
theorem AI.ri {w : World} {ao : Option Addr} {xs : List Int} (h : AI w ao xs) (ca : Nat) (hl : xs.length ≤ 4194304) : RI w (.slice ao xs.length ca) xs := ⟨hl, ao, ca, rfl, h⟩

end Go.Proofs.Ythdehhenkgkkmaa
