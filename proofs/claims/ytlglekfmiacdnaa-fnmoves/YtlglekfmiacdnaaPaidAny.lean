/- (impl.Tx).paid of a right book. -/
import Derived.Test.YtlglekfmiacdnaaPaidOver
namespace Go.Proofs.Ytlglekfmiacdnaa
open Go.RowKit
set_option linter.unusedSectionVars false
variable [∀ (m a b c d : Int), Decidable (In4 m a b c d)]
variable [∀ (xs ys : List Int), Decidable (LOk xs ys)]
variable [∀ (a b c d : Int), Decidable (Ok4 a b c d)]

theorem paid_any (a b c d : Int) (xs ys : List Int) (w : World) (hl : LOk xs ys) :
    Calls Try.prog 42 #[txv a b c d, .agg (b8L xs ys)] w fun o w' => o = .returned (.tuple #[.agg (b8L (paidB xs ys a b c d).1 (paidB xs ys a b c d).2.1), .int .i64 (paidB xs ys a b c d).2.2]) ∧ Below w.heap.size w w' := by
  have hx := hl.1
  have hy := hl.2.1
  by_cases ho : Ok4 a b c d
  · obtain ⟨A, rfl⟩ : ∃ A : Nat, a = A := ⟨a.toNat, by unfold Ok4 at ho; omega⟩
    obtain ⟨B, rfl⟩ : ∃ B : Nat, b = B := ⟨b.toNat, by unfold Ok4 at ho; omega⟩
    have hA : A < 4 := by unfold Ok4 at ho; omega
    have hB : B < 4 := by unfold Ok4 at ho; omega
    have hc : 0 ≤ c ∧ c ≤ 1000 := by unfold Ok4 at ho; omega
    unfold paidB
    rw [if_neg (by simpa using ho), Int.toNat_natCast, Int.toNat_natCast]
    by_cases h1 : d < ys.getD A 0
    · rw [if_pos h1]; exact paid_old A B c d xs ys w hA ho h1
    · rw [if_neg h1]
      by_cases h2 : ys.getD A 0 < d
      · rw [if_pos h2]; exact paid_early A B c d xs ys w hA ho h2
      · rw [if_neg h2]
        have hn : ys.getD A 0 = d := by omega
        by_cases h3 : xs.getD A 0 < c
        · rw [if_pos h3]; exact paid_poor A B c d xs ys w hA hy ho hn h3
        · rw [if_neg h3]
          have hmA := (hl.2.2 A hA).1
          have hmB := (hl.2.2 B hB).1
          have hr : 0 ≤ (xs.set A (xs.getD A 0 - c)).getD B 0 ∧ (xs.set A (xs.getD A 0 - c)).getD B 0 ≤ 400 := by
            rw [getD_set (by omega)]; split <;> omega
          by_cases h4 : LOk ((xs.set A (xs.getD A 0 - c)).set B ((xs.set A (xs.getD A 0 - c)).getD B 0 + c)) (ys.set A (d + 1))
          · rw [if_pos h4]; exact paid_done A B c d xs ys w hA hB hx hy ho hn (by omega) (by omega) hr (decide_eq_true h4)
          · rw [if_neg h4]; exact paid_over A B c d xs ys w hA hB hx hy ho hn (by omega) (by omega) hr (decide_eq_false h4)
  · unfold paidB
    rw [if_pos (by simpa using ho)]
    exact paid_bad a b c d xs ys w ho
end Go.Proofs.Ytlglekfmiacdnaa
