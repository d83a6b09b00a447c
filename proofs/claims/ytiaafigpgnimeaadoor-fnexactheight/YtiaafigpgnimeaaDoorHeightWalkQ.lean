/- The walk of laws.FnExactHeight. -/
import Derived.Test.YtiaafigpgnimeaaDoorBunG
import Derived.Test.YtiaafigpgnimeaaDoorBunF
/- The walk of laws.FnExactHeight. -/
namespace Go.Proofs.YtiaafigpgnimeaaDoor
open Go.RowKit

set_option maxHeartbeats 4000000 in
set_option maxRecDepth 100000 in
theorem fnHeight_short (s : ByteArray) (w : World) (hE : Env w) (hs : s.size ≤ 1048576) :
    Calls Tryd.prog 10 #[.string s] w fun e w' => e = .returned (.bool true) ∧ Below w.heap.size w w' := by
  have SP := hide fun w => specHeight s w (by omega)
  have IM := hide fun w hE => implHeight s w (by omega) hE
  generalize heightAns s = q at *
  have HE := hide hE
  clear hE
  go_enter Tryd.func10, Tryd.ntmps10
  go_wp2_with fail
  refine (unhide SP _).mono ?_
  rintro e w1 ⟨rfl, b0⟩
  go_wp2_with fail
  refine (unhide IM _ ((unhide HE).below b0)).mono ?_
  rintro e w2 ⟨rfl, b1⟩
  go_wp2
  go_ret
  exact ⟨rfl, b0.trans (b1.mono b0.size)⟩

set_option maxHeartbeats 4000000 in
set_option maxRecDepth 100000 in
theorem fnHeight_long (s : ByteArray) (w : World) (hs : 1048576 < s.size) :
    Calls Tryd.prog 10 #[.string s] w fun e w' => e = .returned (.bool true) ∧ Below w.heap.size w w' := by
  go_enter Tryd.func10, Tryd.ntmps10
  go_wp2
  go_ret
  exact ⟨rfl, Below.refl _ _⟩

theorem fnHeight_walk (s : ByteArray) (w : World) (hE : Env w) :
    Calls Tryd.prog 10 #[.string s] w fun e w' => e = .returned (.bool true) ∧ Below w.heap.size w w' := by
  by_cases h : s.size ≤ 1048576
  · exact fnHeight_short s w hE h
  · exact fnHeight_long s w (by omega)
end Go.Proofs.YtiaafigpgnimeaaDoor
