/- The walk of laws.FnExactSplit. -/
import Derived.Test.YtechonbpefnkiaaSpecSplit
import Derived.Test.YtechonbpefnkiaaMarkList
namespace Go.Proofs.Ytechonbpefnkiaa
open Go.RowKit

set_option maxHeartbeats 400000 in
theorem fnSplit_long (s : ByteArray) (b : Int) (w : World) (hs : 1048576 < s.size) :
    Calls Try.prog 5 #[.string s, .int .u8 b] w fun e w' => e = .returned (.bool true) ∧ Below w.heap.size w w' := by
  go_enter Try.func5, Try.ntmps5
  go_wp2
  go_ret
  exact ⟨rfl, Below.refl _ _⟩

set_option maxHeartbeats 1600000 in
theorem fnSplit_short (s : ByteArray) (b : Int) (w : World) (hs : s.size ≤ 1048576) :
    Calls Try.prog 5 #[.string s, .int .u8 b] w fun e w' => e = .returned (.bool true) ∧ Below w.heap.size w w' := by
  have hl : (splitAns s b).length ≤ 1048577 := by have := splitAns_len s b; omega
  have hml := smarks_len 1 (splitAns s b).length
  have SP := hide fun w => specSplit_any s b w hs
  have IM := hide fun w => split_any s b w hs
  generalize splitAns s b = xs at *
  go_enter Try.func5, Try.ntmps5
  go_wp2_with fail
  refine (unhide SP _).mono ?_
  rintro e w1 ⟨v0, rfl, o0, b0⟩
  have s0 := b0.size
  go_wp2_with fail
  refine (unhide IM _).mono ?_
  rintro e w2 ⟨v1, rfl, o1, b1⟩
  have s1 := b1.size
  have l0 := o0.lt
  have l1 := o1.lt
  have o0' : OS w2 w.heap.size v0 xs := o0.below b1
  have r0 := o0'.rs (by omega)
  have r1 := o1.rs (by omega)
  go_wp2_with fail
  refine (eqs_yes v1 v0 xs _ r1 r0).mono ?_
  rintro e w3 ⟨rfl, n3, rfl⟩
  clear r0 r1
  go_wp2_with fail
  refine (smark1 w1.heap.size v1 xs _ (by omega) (o1.drewN n3)).mono ?_
  rintro e w4 ⟨rfl, o1', g4⟩
  have o0'' : OS w4 w.heap.size v0 xs := (o0'.drewN n3).apart g4 (fun k hk => (l0 k hk).2) (fun k hk => (l1 k hk).1)
  have b4 : Below w.heap.size w w4 := (below_drewN (b0.trans (b1.mono s0)) n3).grown g4 (by simp; omega) (fun k hk => by have := (l1 k hk).1; omega)
  have s4 := b4.size
  have r1' := o1'.rs (by omega)
  go_wp2_with fail
  refine (sheld1 v1 xs.length _ r1').mono ?_
  rintro e w5 ⟨rfl, b5⟩
  have s5 := b5.size
  have o1a := o1'.below b5
  have o0a := o0''.below b5
  have b45 := b4.trans (b5.mono s4)
  go_wp2_with fail
  refine (unhide IM _).mono ?_
  rintro e w6 ⟨v2, rfl, o2, b6⟩
  have o1'' := o1a.below b6
  have r0 := (o0a.below b6).rs (by omega)
  have r2 := o2.rs (by omega)
  have r1'' : ∀ n, RS (w6.drewN n) v1 (smarks 1 xs.length) := fun n => (o1''.drewN n).rs (by omega)
  have b7 : Below w.heap.size w w6 := b45.trans (b6.mono (by omega))
  have s7 := b7.size
  go_wp2_with fail
  refine (eqs_yes v2 v0 xs _ r2 r0).mono ?_
  rintro e w7 ⟨rfl, n7, rfl⟩
  go_wp2_with fail
  refine (sheld1 v1 xs.length _ (r1'' n7)).mono ?_
  rintro e w8 ⟨rfl, b8⟩
  go_wp2
  go_ret
  exact ⟨rfl, (below_drewN b7 n7).trans (b8.mono (by simp; omega))⟩

theorem fnSplit_walk (s : ByteArray) (b : Int) (w : World) :
    Calls Try.prog 5 #[.string s, .int .u8 b] w fun e w' => e = .returned (.bool true) ∧ Below w.heap.size w w' := by
  by_cases h : s.size ≤ 1048576
  · exact fnSplit_short s b w h
  · exact fnSplit_long s b w (by omega)
end Go.Proofs.Ytechonbpefnkiaa
