/- The walk of laws.FnExactQuorum. -/
import Derived.Test.YtdgadkinkalcpaaConf
namespace Go.Proofs.Ytdgadkinkalcpaa
open Go.RowKit
set_option linter.unusedSectionVars false
variable [∀ (a b c d : Int), Decidable (Ok4 a b c d)]
variable [∀ (n f : Int), Decidable (COk n f)]

set_option maxHeartbeats 4000000 in
set_option maxRecDepth 100000 in
theorem fnQuorum_walk (n f : Int) (w : World) :
    Calls Try.prog 5 #[cv n f] w fun e w' => e = .returned (.bool true) ∧ Below w.heap.size w w' := by
  have TO := hide fun w => toConf_any n f w
  have SP := hide fun w => specQuorum n f w
  have IM := hide fun w => implQuorum n f w
  generalize quorumOf n f = q at *
  have L0 := loc_at w #[.int .i64 n, .int .i64 f] 23 rfl
  have B0 : Below w.heap.size w (w.alloc (.cells #[.int .i64 n, .int .i64 f] 23)) := conf_below _ _
  go_enter Try.func5, Try.ntmps5
  go_wp2_with fail
  refine (unhide TO _).mono ?_
  rintro _ w1 ⟨rfl, b1⟩
  have B1 := B0.trans (b1.mono B0.size)
  have L1 := L0.below b1 L0.lt
  clear L0 b1 B0
  go_wp2_with fail
  refine (unhide SP _).mono ?_
  rintro _ w2 ⟨rfl, b2⟩
  have B2 := B1.trans (b2.mono B1.size)
  have L2 := L1.below b2 L1.lt
  have p0 := L2.cell 0 rfl
  have p1 := L2.cell 1 rfl
  clear L1 b2 B1
  go_wp2_with fail
  refine (unhide TO _).mono ?_
  rintro _ w3 ⟨rfl, b3⟩
  have B3 := B2.trans (b3.mono B2.size)
  clear L2 p0 p1 b3 B2
  go_wp2_with fail
  refine (unhide IM _).mono ?_
  rintro _ w4 ⟨rfl, b4⟩
  have B4 := B3.trans (b4.mono B3.size)
  clear b4 B3
  go_wp2
  go_ret
  exact ⟨rfl, B4⟩
end Go.Proofs.Ytdgadkinkalcpaa
