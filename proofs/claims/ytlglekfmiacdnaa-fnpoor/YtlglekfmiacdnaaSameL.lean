/- laws.sameInts, laws.sameLedger, laws.big. -/
import Derived.Test.YtlglekfmiacdnaaLedger
namespace Go.Proofs.Ytlglekfmiacdnaa
open Go.RowKit
set_option linter.unusedSectionVars false

set_option maxHeartbeats 1600000 in
set_option maxRecDepth 100000 in
theorem sameInts_yes (va vb : Value) (xs : List Int) (w : World) (ha : RI w va xs) (hb : RI w vb xs) :
    Calls Try.prog 19 #[va, vb] w fun e w' => e = .returned (.bool true) ∧ ∃ n, w' = w.drewN n := by
  obtain ⟨hl, ao, ca, rfl, ha⟩ := ha
  obtain ⟨_, bo, cb, rfl, hb⟩ := hb
  generalize hn : xs.length = n at *
  have Hn : Hid (xs.length = n) := hn
  clear hn
  go_enter Try.func19, Try.ntmps19
  go_wp2
  go_loopw [5] (fun i wr => ∃ k : Nat, k ≤ n ∧ i = .int .i64 k ∧ ∃ m, wr = w.drewN m) (fun i _ => n - (intOf i).toNat)
  case atStart => exact ⟨0, Nat.zero_le _, rfl, 0, rfl⟩
  case round =>
    obtain ⟨k, hk, rfl, m, rfl⟩ := hrel
    by_cases hlt : k < n
    · rcases ha with ha | ⟨b, off, rfl, ha⟩
      · subst ha; have := Hn.out; simp at this; omega
      rcases hb with hb | ⟨b', off', rfl, hb⟩
      · subst hb; have := Hn.out; simp at this; omega
      have ha' := ha k hlt
      have hb' := hb k hlt
      clear ha hb
      generalize xs.getD k 0 = d at *
      go_wp2_with fail
      go_quiet (fail)
      go_wp2
      go_roundw
      case rel => exact ⟨k + 1, by omega, by go_num, _, rfl⟩
      case measure => simp [intOf]; omega
    · clear ha hb
      go_wp2
      go_ret
      exact ⟨rfl, _, rfl⟩

set_option maxHeartbeats 1600000 in
set_option maxRecDepth 100000 in
theorem sameLedger_yes (a b a' b' : Value) (xs ys : List Int) (w : World) (ha : RI w a xs ∧ RI w b ys) (ha' : RI w a' xs ∧ RI w b' ys) :
    Calls Try.prog 18 #[lv a b, lv a' b'] w fun e w' => e = .returned (.bool true) ∧ Below w.heap.size w w' := by
  obtain ⟨R1, R2⟩ := ha
  obtain ⟨R3, R4⟩ := ha'
  have R1 := hide R1
  have R2 := hide R2
  have R3 := hide R3
  have R4 := hide R4
  have B := hide (((Below.refl w.heap.size w).alloc (Nat.le_refl _) (.cells #[a, b] 26)).alloc (by simp) (.cells #[a', b'] 26))
  go_enter Try.func18, Try.ntmps18
  go_wp2_with fail
  refine (sameInts_yes a a' xs _ ((unhide R1).below (unhide B) (Nat.le_refl _)) ((unhide R3).below (unhide B) (Nat.le_refl _))).mono ?_
  rintro e w1 ⟨rfl, n, rfl⟩
  go_wp2_with fail
  refine (sameInts_yes b b' ys _ ((unhide R2).below (below_drewN' (unhide B) _) (Nat.le_refl _)) ((unhide R4).below (below_drewN' (unhide B) _) (Nat.le_refl _))).mono ?_
  rintro e w2 ⟨rfl, n2, rfl⟩
  go_wp2
  go_ret
  exact ⟨rfl, below_drewN' (unhide B) _⟩

set_option maxHeartbeats 1600000 in
set_option maxRecDepth 100000 in
theorem big_any (ao : Option Addr) (n ca : Nat) (w : World) (hn : n ≤ 9223372036854775807) :
    Calls Try.prog 11 #[.slice ao n ca] w fun e w' => e = .returned (.bool (decide (1048576 < n))) ∧ Below w.heap.size w w' := by
  have hd : decide ((1048576 : Int) < (n : Int)) = decide (1048576 < n) := by simp; omega
  go_enter Try.func11, Try.ntmps11
  go_wp2
  go_ret
  refine ⟨?_, Below.refl _ _⟩
  simp
  try omega
end Go.Proofs.Ytlglekfmiacdnaa
