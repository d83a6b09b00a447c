/- LedgerNew of the program and of the specification. -/
import Derived.Test.YthdehhenkgkkmaaBookLedger
namespace Go.Proofs.Ythdehhenkgkkmaa
open Go.RowKit

theorem own_form {w : World} {base size n : Nat} {e : TypeId} {v : Value} {xs : List Value} (h : w.ownsRow base e size v n xs) (hn : 0 < n) : ∃ g cap, v = .slice (some ⟨g, 0, none⟩) n cap := by
  rcases h.2 with ⟨_, h0⟩ | ⟨g, cap, cur, rfl, _⟩
  · omega
  · exact ⟨g, cap, rfl⟩
theorem OI.more {B : Nat} {w1 : World} {v' : Value} {xs : List Int} {c : Int} (ho' : w1.ownsRow B 3 1 v' (xs.length + 1) (xs.map (Value.int .i64) ++ [.int .i64 c])) : OI w1 B v' (xs ++ [c]) := by
  unfold OI; simpa using ho'

end Go.Proofs.Ythdehhenkgkkmaa
