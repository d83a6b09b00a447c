/- laws.eqByteS of two lists that read alike is true. -/
import Derived.Test.YtkjpjgecongkpaaBase
namespace Go.Proofs.Ytkjpjgecongkpaa
open Go.RowKit

set_option maxHeartbeats 800000 in
set_option maxRecDepth 100000 in
theorem eq_yes (va vb : Value) (xs : List Int) (w : World) (ha : RB w va xs) (hb : RB w vb xs) :
    Calls Try.prog 24 #[va, vb] w fun e w' => e = .returned (.bool true) ∧ ∃ n, w' = w.drewN n := by
  obtain ⟨hl, ao, ca, rfl, _, ha⟩ := ha
  obtain ⟨_, bo, cb, rfl, _, hb⟩ := hb
  generalize hn : xs.length = n at *
  have Hn : Hid (xs.length = n) := hn
  clear hn
  go_enter Try.func24, Try.ntmps24
  go_wp2
  go_loopw [5] (fun i wr => ∃ k : Nat, k ≤ n ∧ i = .int .i64 k ∧ ∃ m, wr = w.drewN m) (fun i _ => n - (intOf i).toNat)
  case atStart => exact ⟨0, Nat.zero_le _, rfl, 0, rfl⟩
  case round =>
    obtain ⟨k, hk, rfl, m, rfl⟩ := hrel
    by_cases hlt : k < n
    · rcases ha with ha | ⟨b, off, rfl, ha⟩
      · subst ha; have := Hn.out; simp at this; omega
      rcases hb with hb | ⟨b', off', rfl, hb⟩
      · subst hb; have := Hn.out; simp at this; omega
      have ha' := ha k hlt
      have hb' := hb k hlt
      clear ha hb
      go_wp2_with fail
      go_quiet (fail)
      go_wp2
      go_roundw
      case rel => exact ⟨k + 1, by omega, by go_num, _, rfl⟩
      case measure => simp [intOf]; omega
    · clear ha hb
      go_wp2
      go_ret
      exact ⟨rfl, _, rfl⟩
end Go.Proofs.Ytkjpjgecongkpaa
