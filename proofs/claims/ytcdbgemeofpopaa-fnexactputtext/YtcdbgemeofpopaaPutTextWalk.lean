/- The walk of laws.FnExactPutText. -/
import Derived.Test.YtcdbgemeofpopaaText
import Derived.Test.YtcdbgemeofpopaaMark
import Derived.Test.YtcdbgemeofpopaaEqByte
namespace Go.Proofs.Ytcdbgemeofpopaa
open Go.RowKit

set_option maxHeartbeats 400000 in
set_option maxRecDepth 100000 in
theorem putText_long (s : ByteArray) (w : World) (hs : 1048576 < s.size) :
    Calls Try.prog 3 #[.string s] w fun e w' => e = .returned (.bool true) ∧ Below w.heap.size w w' := by
  go_enter Try.func3, Try.ntmps3
  go_wp2
  go_ret
  exact ⟨rfl, Below.refl _ _⟩

set_option maxHeartbeats 1600000 in
set_option maxRecDepth 100000 in
theorem putText_short (s : ByteArray) (w : World) (hs : s.size ≤ 1048576) :
    Calls Try.prog 3 #[.string s] w fun e w' => e = .returned (.bool true) ∧ Below w.heap.size w w' := by
  have hl : (textAns s).length ≤ 1048581 := by rw [textAns_len]; have := (put_len 4 s.size).1; omega
  have hml := marks_len 1 (textAns s).length
  go_enter Try.func3, Try.ntmps3
  go_wp2_with fail
  refine (specText s _ hs).mono ?_
  rintro e w1 ⟨v0, rfl, o0, b0⟩
  have s0 := b0.size
  go_wp2_with fail
  refine (implText s _ hs).mono ?_
  rintro e w2 ⟨v1, rfl, o1, b1⟩
  have s1 := b1.size
  have l0 := o0.lt
  have l1 := o1.lt
  have o0' : OB w2 w.heap.size v0 (textAns s) := OB.below o0 b1
  have r0 := OB.rb o0' (by omega)
  have r1 := OB.rb o1 (by omega)
  go_wp2_with fail
  refine (eq_yes v1 v0 (textAns s) _ r1 r0).mono ?_
  rintro e w3 ⟨rfl, n3, rfl⟩
  clear r0 r1
  go_wp2_with fail
  refine (mark1 w1.heap.size v1 (textAns s) _ (by omega) (OB.drewN o1 n3)).mono ?_
  rintro e w4 ⟨rfl, o1', g4⟩
  have o0'' : OB w4 w.heap.size v0 (textAns s) := OB.apart (OB.drewN o0' n3) g4 (fun k hk => (l0 k hk).2) (fun k hk => (l1 k hk).1)
  have b4 : Below w.heap.size w w4 := (below_drewN (b0.trans (b1.mono s0)) n3).grown g4 (by simp; omega) (fun k hk => by have := (l1 k hk).1; omega)
  have s4 := b4.size
  have r1' := OB.rb o1' (by omega)
  go_wp2_with fail
  refine (held1 v1 (textAns s).length _ r1').mono ?_
  rintro e w5 ⟨rfl, rfl⟩
  go_wp2_with fail
  refine (implText s _ hs).mono ?_
  rintro e w6 ⟨v2, rfl, o2, b6⟩
  have o1'' : OB w6 w1.heap.size v1 (marks 1 (textAns s).length) := OB.below o1' b6
  have o0x : OB w6 w.heap.size v0 (textAns s) := OB.below o0'' b6
  have r0 := OB.rb o0x (by omega)
  have r2 := OB.rb o2 (by omega)
  have r1'' : ∀ n, RB (w6.drewN n) v1 (marks 1 (textAns s).length) := fun n => OB.rb (OB.drewN o1'' n) (by omega)
  have b7 : Below w.heap.size w w6 := b4.trans (b6.mono s4)
  go_wp2_with fail
  refine (eq_yes v2 v0 (textAns s) _ r2 r0).mono ?_
  rintro e w7 ⟨rfl, n7, rfl⟩
  go_wp2_with fail
  refine (held1 v1 (textAns s).length _ (r1'' n7)).mono ?_
  rintro e w8 ⟨rfl, rfl⟩
  go_wp2
  go_ret
  exact ⟨rfl, below_drewN b7 n7⟩

theorem putText_walk (s : ByteArray) (w : World) :
    Calls Try.prog 3 #[.string s] w fun e w' => e = .returned (.bool true) ∧ Below w.heap.size w w' := by
  by_cases h : s.size ≤ 1048576
  · exact putText_short s w h
  · exact putText_long s w (by omega)
end Go.Proofs.Ytcdbgemeofpopaa
