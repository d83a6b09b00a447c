/- laws.sameInts, laws.sameLedger, laws.big. -/
import Derived.Test.YtkjmkcipalmonaaLedger
namespace Go.Proofs.Ytkjmkcipalmonaa
open Go.RowKit

set_option maxHeartbeats 1600000 in
set_option maxRecDepth 100000 in
theorem sameInts_yes (va vb : Value) (xs : List Int) (w : World) (ha : RI w va xs) (hb : RI w vb xs) :
    Calls Try.prog 19 #[va, vb] w fun e w' => e = .returned (.bool true) ∧ ∃ n, w' = w.drewN n := by
  obtain ⟨hl, ao, ca, rfl, ha⟩ := ha
  obtain ⟨_, bo, cb, rfl, hb⟩ := hb
  generalize hn : xs.length = n at *
  have Hn : Hid (xs.length = n) := hn
  clear hn
  go_enter Try.func19, Try.ntmps19
  go_wp2
  go_loopw [5] (fun i wr => ∃ k : Nat, k ≤ n ∧ i = .int .i64 k ∧ ∃ m, wr = w.drewN m) (fun i _ => n - (intOf i).toNat)
  case atStart => exact ⟨0, Nat.zero_le _, rfl, 0, rfl⟩
  case round =>
    obtain ⟨k, hk, rfl, m, rfl⟩ := hrel
    by_cases hlt : k < n
    · rcases ha with ha | ⟨b, off, rfl, ha⟩
      · subst ha; have := Hn.out; simp at this; omega
      rcases hb with hb | ⟨b', off', rfl, hb⟩
      · subst hb; have := Hn.out; simp at this; omega
      have ha' := ha k hlt
      have hb' := hb k hlt
      clear ha hb
      generalize xs.getD k 0 = d at *
      go_wp2_with fail
      go_quiet (fail)
      go_wp2
      go_roundw
      case rel => exact ⟨k + 1, by omega, by go_num, _, rfl⟩
      case measure => simp [intOf]; omega
    · clear ha hb
      go_wp2
      go_ret
      exact ⟨rfl, _, rfl⟩

set_option maxHeartbeats 1600000 in
set_option maxRecDepth 100000 in
theorem big_any (ao : Option Addr) (n ca : Nat) (w : World) (hn : n ≤ 9223372036854775807) :
    Calls Try.prog 13 #[.slice ao n ca] w fun e w' => e = .returned (.bool (decide (1048576 < n))) ∧ Below w.heap.size w w' := by
  have hd : decide ((1048576 : Int) < (n : Int)) = decide (1048576 < n) := by simp; omega
  go_enter Try.func13, Try.ntmps13
  go_wp2
  go_ret
  refine ⟨?_, Below.refl _ _⟩
  simp
  try omega
end Go.Proofs.Ytkjmkcipalmonaa
