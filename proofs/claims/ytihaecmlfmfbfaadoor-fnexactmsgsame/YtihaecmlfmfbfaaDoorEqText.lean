/- What == says of two blocks told as texts. -/
import Derived.Test.YtihaecmlfmfbfaaDoorBase
import Derived.Laws.StructEq
import Derived.KernelRfl
namespace Go.Proofs.YtihaecmlfmfbfaaDoor
open Go.RowKit

/-- A block told as texts. -/
abbrev tv (m d s x : ByteArray) : Value := .agg #[.string m, .string d, .string s, .string x]
set_option maxHeartbeats 1000000 in
set_option maxRecDepth 100000 in
theorem eq_text (m d s x m' d' s' x' : ByteArray) (w : World) :
    (binOp .eql 58 (tv m d s x) (tv m' d' s' x')).run Tryd.prog w = .ok (.bool (m.toList == m'.toList && (d.toList == d'.toList && (s.toList == s'.toList && x.toList == x'.toList)))) w := by
  have hS : Tryd.prog.underlying 58 = some (.struct (Tryd.prog.fieldsOf 58)) := by kernel_rfl
  have hp : Tryd.prog.stoodInHeld 58 = false := by kernel_rfl
  rw [run_eql_struct, show (10000 : Nat) = 9999 + 1 from rfl, run_equalIn_struct w 9999 58 _ _ hS hp]
  simp only [Program.fieldsOf, Tryd.underlying58]
  go_simp
  by_cases h1 : m.toList = m'.toList <;> by_cases h2 : d.toList = d'.toList <;> by_cases h3 : s.toList = s'.toList <;> by_cases h4 : x.toList = x'.toList <;> simp [h1, h2, h3, h4]
theorem guard_text (x y : Operand) (xs ys : Array Value) (w : World) : (eqGuard .eql 58 x y (.agg xs) (.agg ys)).run Tryd.prog w = .ok () w := run_eqGuard_agg w .eql _ x y xs ys (by kernel_rfl)
end Go.Proofs.YtihaecmlfmfbfaaDoor
