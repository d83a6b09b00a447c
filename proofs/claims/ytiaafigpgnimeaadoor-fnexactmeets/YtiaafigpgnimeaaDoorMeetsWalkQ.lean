/- The walk of laws.FnExactMeets. -/
import Derived.Test.YtiaafigpgnimeaaDoorBunG
import Derived.Test.YtiaafigpgnimeaaDoorBunF
/- The walk of laws.FnExactMeets. -/
namespace Go.Proofs.YtiaafigpgnimeaaDoor
open Go.RowKit

set_option maxHeartbeats 4000000 in
set_option maxRecDepth 100000 in
theorem fnMeets_short (s t : ByteArray) (w : World) (hE : Env w) (hs : s.size ≤ 1048576) (ht : t.size ≤ 1048576) :
    Calls Tryd.prog 12 #[.string s, .string t] w fun e w' => e = .returned (.bool true) ∧ Below w.heap.size w w' := by
  have SP := hide fun w => specMeets s t w (by omega) (by omega)
  have IM := hide fun w hE => implMeets s t w (by omega) (by omega) hE
  generalize (extB s t || extB t s) = q at *
  have hbb : (q != q) = false := by simp
  have HE := hide hE
  clear hE
  go_enter Tryd.func12, Tryd.ntmps12
  go_wp2_with fail
  refine (unhide SP _).mono ?_
  rintro e w1 ⟨rfl, b0⟩
  go_wp2_with fail
  refine (unhide IM _ ((unhide HE).below b0)).mono ?_
  rintro e w2 ⟨rfl, b1⟩
  go_wp2
  go_ret
  exact ⟨rfl, b0.trans (b1.mono b0.size)⟩

set_option maxHeartbeats 4000000 in
set_option maxRecDepth 100000 in
theorem fnMeets_long (s t : ByteArray) (w : World) (hs : 1048576 < s.size) :
    Calls Tryd.prog 12 #[.string s, .string t] w fun e w' => e = .returned (.bool true) ∧ Below w.heap.size w w' := by
  go_enter Tryd.func12, Tryd.ntmps12
  go_wp2
  go_ret
  exact ⟨rfl, Below.refl _ _⟩

set_option maxHeartbeats 4000000 in
set_option maxRecDepth 100000 in
theorem fnMeets_long2 (s t : ByteArray) (w : World) (hs : s.size ≤ 1048576) (ht : 1048576 < t.size) :
    Calls Tryd.prog 12 #[.string s, .string t] w fun e w' => e = .returned (.bool true) ∧ Below w.heap.size w w' := by
  go_enter Tryd.func12, Tryd.ntmps12
  go_wp2
  go_ret
  exact ⟨rfl, Below.refl _ _⟩

theorem fnMeets_walk (s t : ByteArray) (w : World) (hE : Env w) :
    Calls Tryd.prog 12 #[.string s, .string t] w fun e w' => e = .returned (.bool true) ∧ Below w.heap.size w w' := by
  by_cases h : s.size ≤ 1048576
  · by_cases h2 : t.size ≤ 1048576
    · exact fnMeets_short s t w hE h h2
    · exact fnMeets_long2 s t w h (by omega)
  · exact fnMeets_long s t w (by omega)
end Go.Proofs.YtiaafigpgnimeaaDoor
