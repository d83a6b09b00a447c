/- Two certificates held against each other, by the specification and by the program. -/
import Derived.Test.YtehdchpolgihlaaQc
import Derived.BigQuiet
namespace Go.Proofs.Ytehdchpolgihlaa
open Go.RowKit

theorem list_end {xs ys : List Int} {k : Nat} (h1 : k ≤ xs.length) (h2 : k ≤ ys.length) (h : ¬ (k < xs.length ∧ k < ys.length)) (he : ∀ j, j < k → xs.getD j 0 = ys.getD j 0) : xs.length = ys.length ↔ xs = ys := by
  constructor
  · intro e
    apply List.ext_getElem e
    intro i p q
    have := he i (by omega)
    simpa [List.getD_eq_getElem?_getD, p, q] using this
  · rintro rfl; rfl
theorem str_ne {t s : ByteArray} (h : t ≠ s) : (t.toList == s.toList) = false := by
  rw [beq_eq_false_iff_ne]
  intro e
  rw [ByteArray.toList_eq, ByteArray.toList_eq] at e
  exact h (ByteArray.ext (Array.toList_inj.1 e))
theorem list_off {xs ys : List Int} {k : Nat} (h : xs.getD k 0 ≠ ys.getD k 0) : xs ≠ ys := fun e => h (e ▸ rfl)

/-- Whether two certificates are alike. -/
def alikeB (n m : Int) (s t : ByteArray) (xs ys : List Int) : Bool := decide (n = m ∧ s = t ∧ xs = ys)

end Go.Proofs.Ytehdchpolgihlaa
