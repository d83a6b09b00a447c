/- laws.sameTxs of two lists of the same payments. -/
import Derived.Test.YtnbiphlificliaaDoorTxList
namespace Go.Proofs.YtnbiphlificliaaDoor
open Go.RowKit
set_option linter.unusedSectionVars false
variable [∀ (a b c d : Int), Decidable (Ok4 a b c d)]

set_option maxHeartbeats 2000000 in
set_option maxRecDepth 100000 in
theorem sameTxs_yes (v u : Value) (xs : List T4) (w : World) (hv : RT w v xs) (hu : RT w u xs) :
    Calls Tryd.prog 23 #[v, u] w fun e w' => e = .returned (.bool true) ∧ ∃ n, w' = w.drewN n := by
  obtain ⟨hl, ao, ca, rfl, ha⟩ := hv
  obtain ⟨_, bo, cb, rfl, hb⟩ := hu
  have hbnd : xs.length ≤ 9223372036854775807 := by omega
  go_enter Tryd.func23, Tryd.ntmps23
  go_wp2
  go_loopw [5] (fun i wr => ∃ k n : Nat, k ≤ xs.length ∧ i = .int .i64 k ∧ wr = w.drewN n) (fun i _ => xs.length - (intOf i).toNat)
  case atStart => exact ⟨0, 0, Nat.zero_le _, rfl, rfl⟩
  case round =>
    obtain ⟨k, n, hk, rfl, rfl⟩ := hrel
    by_cases hlt : k < xs.length
    · rcases ha with ha | ⟨g, rfl, ha⟩
      · subst ha; simp at hlt
      rcases hb with hb | ⟨g', rfl, hb⟩
      · subst hb; simp at hlt
      obtain ⟨a0, a1, a2, a3⟩ := ha k hlt
      obtain ⟨b0, b1, b2, b3⟩ := hb k hlt
      clear ha hb
      generalize xs.getD k (0, 0, 0, 0) = x at *
      obtain ⟨xa, xb, xc, xd⟩ := x
      simp only at a0 a1 a2 a3 b0 b1 b2 b3
      go_wp2_with fail
      go_quiet (fail)
      go_wp2
      go_roundw
      case rel => exact ⟨k + 1, _, by omega, by go_num, by rfl⟩
      case measure => simp [intOf]; omega
    · have hkn : k = xs.length := by omega
      subst hkn
      clear ha hb
      go_wp2
      go_ret
      exact ⟨rfl, _, rfl⟩
end Go.Proofs.YtnbiphlificliaaDoor
