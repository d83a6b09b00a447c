/- Conf: ConfOk, Faults, Quorum of the program and of the specification; laws.toConf. -/
import Derived.Test.YtehdchpolgihlaaIn
import Derived.Test.YtehdchpolgihlaaTxOk
import Derived.Test.YtehdchpolgihlaaLoc
import Derived.Deep.RegionHeld3
import Derived.Deep.DeepCutAuto
namespace Go.Proofs.Ytehdchpolgihlaa
open Go.RowKit
set_option linter.unusedSectionVars false
variable [∀ (a b c d : Int), Decidable (Ok4 a b c d)]

/-- A Conf in memory. -/
abbrev cv (n f : Int) : Value := .agg #[.int .i64 n, .int .i64 f]
def COk (n f : Int) : Prop := (4 ≤ n ∧ n ≤ 7) ∧ 1 ≤ f ∧ f ≤ 6
variable [∀ (n f : Int), Decidable (COk n f)]
def faultsOf (n f : Int) : Int := if COk n f then (n - 1) / 3 else 0
def quorumOf (n f : Int) : Int := if COk n f then n - (n - 1) / 3 else 0
theorem cok_cases {n f : Int} (h : COk n f) : n = 4 ∨ n = 5 ∨ n = 6 ∨ n = 7 := by obtain ⟨h, _⟩ := h; omega
theorem conf_below (w : World) (o : Obj) : Below w.heap.size w (w.alloc o) := (Below.refl _ _).alloc (Nat.le_refl _) _

set_option maxHeartbeats 800000 in
set_option maxRecDepth 100000 in
theorem specConfOk (n f : Int) (w : World) :
    Calls Try.prog 69 #[cv n f] w fun e w' => e = .returned (.bool (decide (COk n f))) ∧ Below w.heap.size w w' := by
  by_cases h1 : 4 ≤ n ∧ n ≤ 7
  · by_cases h2 : 1 ≤ f ∧ f ≤ 6
    · have hd : decide (COk n f) = true := by simp [COk, h1, h2]
      rw [hd]
      go_enter Try.func69, Try.ntmps69
      go_wp2_with (first | (go_at_call 70; refine (in_yes _ _ _ _ (by omega) (by omega)).mono ?_; rintro e w' ⟨rfl, rfl⟩))
      go_ret
      exact ⟨rfl, conf_below _ _⟩
    · have hd : decide (COk n f) = false := by simp [COk, h1]; omega
      rw [hd]
      go_enter Try.func69, Try.ntmps69
      go_wp2_with fail
      refine (in_yes _ _ _ _ (by omega) (by omega)).mono ?_
      rintro e w' ⟨rfl, rfl⟩
      go_wp2_with fail
      refine (in_no _ _ _ _ (by omega)).mono ?_
      rintro e w' ⟨rfl, rfl⟩
      go_wp2
      go_ret
      exact ⟨rfl, conf_below _ _⟩
  · have hd : decide (COk n f) = false := by simp only [decide_eq_false_iff_not]; rintro ⟨h, _⟩; exact h1 h
    rw [hd]
    go_enter Try.func69, Try.ntmps69
    go_wp2_with fail
    refine (in_no _ _ _ _ (by omega)).mono ?_
    rintro e w' ⟨rfl, rfl⟩
    go_wp2
    go_ret
    exact ⟨rfl, conf_below _ _⟩

end Go.Proofs.Ytehdchpolgihlaa
