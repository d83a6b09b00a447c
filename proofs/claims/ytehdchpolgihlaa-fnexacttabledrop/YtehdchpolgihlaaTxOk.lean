/- TxOk of the program and of the specification; toTx. -/
import Derived.Test.YtehdchpolgihlaaIn
namespace Go.Proofs.Ytehdchpolgihlaa
open Go.RowKit
set_option linter.unusedSectionVars false

/-- Whether a payment of these four numbers is right. -/
def Ok4 (a b c d : Int) : Prop := (0 ≤ a ∧ a ≤ 3) ∧ (0 ≤ b ∧ b ≤ 3) ∧ (0 ≤ c ∧ c ≤ 1000) ∧ (0 ≤ d ∧ d ≤ 99)
variable [∀ (a b c d : Int), Decidable (Ok4 a b c d)]
/-- A payment as a value. -/
abbrev txv (a b c d : Int) : Value := .agg #[.int .i64 a, .int .i64 b, .int .i64 c, .int .i64 d]

set_option maxHeartbeats 1600000 in
set_option maxRecDepth 100000 in
theorem specTxOk_yes (a b c d : Int) (w : World) (h : Ok4 a b c d) :
    Calls Try.prog 80 #[txv a b c d] w fun e w' => e = .returned (.bool true) ∧ Below w.heap.size w w' := by
  obtain ⟨⟨a1, a2⟩, ⟨b1, b2⟩, ⟨c1, c2⟩, ⟨d1, d2⟩⟩ := h
  go_enter Try.func80, Try.ntmps80
  go_wp2_with (first | (go_at_call 70; refine (in_yes _ _ _ _ (by omega) (by omega)).mono ?_; rintro e w' ⟨rfl, rfl⟩))
  go_ret
  exact ⟨rfl, (Below.refl _ _).alloc (Nat.le_refl _) _⟩

set_option maxHeartbeats 1600000 in
set_option maxRecDepth 100000 in
theorem specTxOk_no (a b c d : Int) (w : World) (h : ¬ Ok4 a b c d) :
    Calls Try.prog 80 #[txv a b c d] w fun e w' => e = .returned (.bool false) ∧ Below w.heap.size w w' := by
  by_cases ha : 0 ≤ a ∧ a ≤ 3
  · obtain ⟨a1, a2⟩ := ha
    by_cases hb : 0 ≤ b ∧ b ≤ 3
    · obtain ⟨b1, b2⟩ := hb
      by_cases hc : 0 ≤ c ∧ c ≤ 1000
      · obtain ⟨c1, c2⟩ := hc
        have hd : d < 0 ∨ 99 < d := by unfold Ok4 at h; omega
        clear h
        go_enter Try.func80, Try.ntmps80
        go_wp2_with (first | (go_at_call 70; refine (in_yes _ _ _ _ (by omega) (by omega)).mono ?_; rintro e w' ⟨rfl, rfl⟩) | (go_at_call 70; refine (in_no _ _ _ _ (by omega)).mono ?_; rintro e w' ⟨rfl, rfl⟩))
        go_ret
        exact ⟨rfl, (Below.refl _ _).alloc (Nat.le_refl _) _⟩
      · have hc' : c < 0 ∨ 1000 < c := by omega
        clear h hc
        go_enter Try.func80, Try.ntmps80
        go_wp2_with (first | (go_at_call 70; refine (in_yes _ _ _ _ (by omega) (by omega)).mono ?_; rintro e w' ⟨rfl, rfl⟩) | (go_at_call 70; refine (in_no _ _ _ _ (by omega)).mono ?_; rintro e w' ⟨rfl, rfl⟩))
        go_ret
        exact ⟨rfl, (Below.refl _ _).alloc (Nat.le_refl _) _⟩
    · have hb' : b < 0 ∨ 3 < b := by omega
      clear h hb
      go_enter Try.func80, Try.ntmps80
      go_wp2_with (first | (go_at_call 70; refine (in_yes _ _ _ _ (by omega) (by omega)).mono ?_; rintro e w' ⟨rfl, rfl⟩) | (go_at_call 70; refine (in_no _ _ _ _ (by omega)).mono ?_; rintro e w' ⟨rfl, rfl⟩))
      go_ret
      exact ⟨rfl, (Below.refl _ _).alloc (Nat.le_refl _) _⟩
  · have ha' : a < 0 ∨ 3 < a := by omega
    clear h ha
    go_enter Try.func80, Try.ntmps80
    go_wp2_with (first | (go_at_call 70; refine (in_yes _ _ _ _ (by omega) (by omega)).mono ?_; rintro e w' ⟨rfl, rfl⟩) | (go_at_call 70; refine (in_no _ _ _ _ (by omega)).mono ?_; rintro e w' ⟨rfl, rfl⟩))
    go_ret
    exact ⟨rfl, (Below.refl _ _).alloc (Nat.le_refl _) _⟩

theorem specTxOk (a b c d : Int) (w : World) :
    Calls Try.prog 80 #[txv a b c d] w fun e w' => e = .returned (.bool (decide (Ok4 a b c d))) ∧ Below w.heap.size w w' := by
  by_cases h : Ok4 a b c d
  · rw [decide_eq_true h]; exact specTxOk_yes a b c d w h
  · rw [decide_eq_false h]; exact specTxOk_no a b c d w h
end Go.Proofs.Ytehdchpolgihlaa
