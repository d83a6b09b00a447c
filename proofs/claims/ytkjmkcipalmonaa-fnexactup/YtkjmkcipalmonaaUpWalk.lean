/- The walk of laws.FnExactUp. -/
import Derived.Test.YtkjmkcipalmonaaTreeSeat
namespace Go.Proofs.Ytkjmkcipalmonaa
open Go.RowKit
set_option linter.unusedSectionVars false
variable [∀ (a b c d : Int), Decidable (Ok4 a b c d)]
variable [∀ (n f : Int), Decidable (COk n f)]

set_option maxHeartbeats 8000000 in
set_option maxRecDepth 100000 in
theorem fnUp_walk (n f v i : Int) (w : World) :
    Calls Try.prog 9 #[cv n f, .int .i64 v, .int .i64 i] w fun e w' => e = .returned (.bool true) ∧ Below w.heap.size w w' := by
  have TO := hide fun w => toConf_any n f w
  have SP := hide fun w => specUp n f v i w
  have IM := hide fun w => implUp n f v i w
  generalize upI n f v i = q at *
  obtain ⟨w0, hw0⟩ : ∃ y, w.alloc (.cells #[.int .i64 n, .int .i64 f] 39) = y := ⟨_, rfl⟩
  have Bw0 : Below w.heap.size w w0 := hw0 ▸ conf_below _ _
  have LC : Loc w0 w.heap.size #[.int .i64 n, .int .i64 f] := hw0 ▸ loc_at w _ _ rfl
  have c0 := LC.cell 0 rfl
  have c1 := LC.cell 1 rfl
  go_enter Try.func9, Try.ntmps9
  go_wp2_with fail
  refine (unhide TO _).mono ?_
  rintro _ w1 ⟨rfl, bb⟩
  have Bw1 := Bw0.trans (bb.mono Bw0.size)
  have zw1 := bb.size
  replace LC := LC.below bb LC.lt
  clear bb Bw0
  clear hw0
  clear c0 c1
  go_wp2_with fail
  refine (unhide SP _).mono ?_
  rintro _ w2 ⟨rfl, bb⟩
  have Bw2 := Bw1.trans (bb.mono Bw1.size)
  have zw2 := bb.size
  replace LC := LC.below bb LC.lt
  clear bb Bw1
  have c0 := LC.cell 0 rfl
  have c1 := LC.cell 1 rfl
  go_wp2_with fail
  refine (unhide TO _).mono ?_
  rintro _ w3 ⟨rfl, bb⟩
  have Bw3 := Bw2.trans (bb.mono Bw2.size)
  have zw3 := bb.size
  replace LC := LC.below bb LC.lt
  clear bb Bw2
  clear c0 c1
  go_wp2_with fail
  refine (unhide IM _).mono ?_
  rintro _ w4 ⟨rfl, bb⟩
  have Bw4 := Bw3.trans (bb.mono Bw3.size)
  have zw4 := bb.size
  replace LC := LC.below bb LC.lt
  clear bb Bw3
  go_wp2
  go_ret
  exact ⟨rfl, Bw4⟩
end Go.Proofs.Ytkjmkcipalmonaa
