/- PartCmp0: cmp.Compare of numbers and of texts, cmp.Or of two numbers. -/
import Derived.Test.YtehdchpolgihlaaPartCmpP
import Derived.Test.YtehdchpolgihlaaLoc
import Derived.Test.YtehdchpolgihlaaHeldBy
import Derived.Laws.EntriesVeiled
import Derived.Laws.Cover1
namespace Go.Proofs.Ytehdchpolgihlaa
open Go.RowKit

set_option maxHeartbeats 800000 in
set_option maxRecDepth 100000 in
theorem isNaN_i (x : Int) (w : World) : Calls Try.prog 65 #[.int .i64 x] w fun e w' => e = .returned (.bool false) ∧ w' = w := by
  go_enter Try.func65, Try.ntmps65
  go_wp2
  go_ret
  exact ⟨by simp, rfl⟩

set_option maxHeartbeats 1600000 in
set_option maxRecDepth 100000 in
theorem compare_i (x y : Int) (w : World) : Calls Try.prog 50 #[.int .i64 x, .int .i64 y] w fun e w' => e = .returned (.int .i64 (cmpI x y)) ∧ w' = w := by
  have NN := hide isNaN_i
  unfold cmpI
  by_cases h1 : x < y
  · rw [if_pos h1]
    go_enter Try.func50, Try.ntmps50
    go_wp2_with (first | (go_at_call 65; refine (unhide NN _ _).mono ?_; rintro e w' ⟨rfl, rfl⟩))
    go_ret
    exact ⟨rfl, rfl⟩
  · rw [if_neg h1]
    by_cases h2 : y < x
    · rw [if_pos h2]
      go_enter Try.func50, Try.ntmps50
      go_wp2_with (first | (go_at_call 65; refine (unhide NN _ _).mono ?_; rintro e w' ⟨rfl, rfl⟩))
      go_ret
      exact ⟨rfl, rfl⟩
    · rw [if_neg h2]
      go_enter Try.func50, Try.ntmps50
      go_wp2_with (first | (go_at_call 65; refine (unhide NN _ _).mono ?_; rintro e w' ⟨rfl, rfl⟩))
      go_ret
      exact ⟨rfl, rfl⟩

set_option maxHeartbeats 800000 in
set_option maxRecDepth 100000 in
theorem isNaN_s (s : ByteArray) (w : World) : Calls Try.prog 66 #[.string s] w fun e w' => e = .returned (.bool false) ∧ w' = w := by
  go_enter Try.func66, Try.ntmps66
  go_wp2
  go_ret
  exact ⟨by simp, rfl⟩

set_option maxHeartbeats 1600000 in
set_option maxRecDepth 100000 in
theorem compare_s (s t : ByteArray) (w : World) : Calls Try.prog 51 #[.string s, .string t] w fun e w' => e = .returned (.int .i64 (cmpS s t)) ∧ w' = w := by
  have NN := hide isNaN_s
  unfold cmpS
  by_cases h1 : Op.bytesLess s.toList t.toList = true
  · rw [if_pos h1]
    go_enter Try.func51, Try.ntmps51
    go_wp2_with (first | (go_at_call 66; refine (unhide NN _ _).mono ?_; rintro e w' ⟨rfl, rfl⟩))
    go_ret
    exact ⟨rfl, rfl⟩
  · rw [if_neg h1]
    have h1 : Op.bytesLess s.toList t.toList = false := by simpa using h1
    by_cases h2 : Op.bytesLess t.toList s.toList = true
    · rw [if_pos h2]
      have h3 : (s.toList == t.toList) = false := by
        simp only [beq_eq_false_iff_ne]; intro e; rw [e, less_irrefl] at h2; cases h2
      go_enter Try.func51, Try.ntmps51
      go_wp2_with (first | (go_at_call 66; refine (unhide NN _ _).mono ?_; rintro e w' ⟨rfl, rfl⟩))
      go_ret
      exact ⟨rfl, rfl⟩
    · rw [if_neg h2]
      have h2 : Op.bytesLess t.toList s.toList = false := by simpa using h2
      have h3 : (s.toList == t.toList) = true := by
        rw [beq_iff_eq]; exact Classical.byContradiction fun e => by have := less_total h1 e; rw [h2] at this; cases this
      go_enter Try.func51, Try.ntmps51
      go_wp2_with (first | (go_at_call 66; refine (unhide NN _ _).mono ?_; rintro e w' ⟨rfl, rfl⟩))
      go_ret
      exact ⟨rfl, rfl⟩

set_option maxHeartbeats 1600000 in
set_option maxRecDepth 100000 in
theorem or_two (a b : Int) (g : Nat) (w : World) (h0 : w.cell? ⟨g, 0, none⟩ = some (.int .i64 a)) (h1 : w.cell? ⟨g, 1, none⟩ = some (.int .i64 b)) :
    Calls Try.prog 49 #[.slice (some ⟨g, 0, none⟩) 2 2] w fun e w' => e = .returned (.int .i64 (if a ≠ 0 then a else b)) ∧ w' = w := by
  by_cases ha : a = 0
  · have e : (if a ≠ 0 then a else b) = b := by simp [ha]
    rw [e]
    subst ha
    clear e
    by_cases hb : b = 0
    · subst hb
      go_enter Try.func49, Try.ntmps49
      go_wp2
      refine wp_loop_rounds 3 ?_
      rw [rounds_succ]
      go_wp2
      rw [rounds_succ]
      go_wp2
      rw [rounds_succ]
      go_wp2
      go_ret
      exact ⟨rfl, rfl⟩
    · go_enter Try.func49, Try.ntmps49
      go_wp2
      refine wp_loop_rounds 2 ?_
      rw [rounds_succ]
      go_wp2
      rw [rounds_succ]
      go_wp2
      go_ret
      exact ⟨rfl, rfl⟩
  · have e : (if a ≠ 0 then a else b) = a := by simp [ha]
    rw [e]
    clear e
    go_enter Try.func49, Try.ntmps49
    go_wp2
    refine wp_loop_rounds 1 ?_
    rw [rounds_succ]
    go_wp2
    go_ret
    exact ⟨rfl, rfl⟩

end Go.Proofs.Ytehdchpolgihlaa
