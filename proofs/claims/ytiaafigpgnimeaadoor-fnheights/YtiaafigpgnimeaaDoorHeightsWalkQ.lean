/- The walk of laws.FnHeights. -/
import Derived.Test.YtiaafigpgnimeaaDoorBunG
import Derived.Test.YtiaafigpgnimeaaDoorBunJ
/- The walk of laws.FnHeights. -/
namespace Go.Proofs.YtiaafigpgnimeaaDoor
open Go.RowKit

theorem big_no5 (ao : Option Addr) (n ca : Nat) (w : World) (h : n ≤ 1048576) :
    Calls Tryd.prog 13 #[.slice ao n ca] w fun e w' => e = .returned (.bool false) ∧ w' = w := by
  have hd : decide ((1048576 : Int) < (n : Int)) = false := by simp; omega
  go_enter Tryd.func13, Tryd.ntmps13
  go_wp2
  go_ret
  exact ⟨rfl, rfl⟩
theorem big_yes5 (ao : Option Addr) (n ca : Nat) (w : World) (h : 1048576 < n) :
    Calls Tryd.prog 13 #[.slice ao n ca] w fun e w' => e = .returned (.bool true) ∧ w' = w := by
  have hd : decide ((1048576 : Int) < (n : Int)) = true := by simp; omega
  go_enter Tryd.func13, Tryd.ntmps13
  go_wp2
  go_ret
  exact ⟨rfl, rfl⟩

set_option maxHeartbeats 800000 in
set_option maxRecDepth 100000 in
theorem fnHeights_big (ao : Option Addr) (n ca : Nat) (w : World) (h : 1048576 < n) :
    Calls Tryd.prog 3 #[.slice ao n ca] w fun e w' => e = .returned (.bool true) ∧ Below w.heap.size w w' := by
  have BG := hide fun w => big_yes5 ao n ca w h
  go_enter Tryd.func3, Tryd.ntmps3
  go_wp2_with fail
  refine (unhide BG _).mono ?_
  rintro e w1 ⟨rfl, rfl⟩
  go_wp2
  go_ret
  exact ⟨rfl, Below.refl _ _⟩

set_option maxHeartbeats 4000000 in
set_option maxRecDepth 100000 in
theorem fnHeights_small (ao : Option Addr) (ca : Nat) (xs : List Int) (w : World) (h : DCode w ao xs) (hE : Env w) :
    Calls Tryd.prog 3 #[.slice ao xs.length ca] w fun e w' => e = .returned (.bool true) ∧ Below w.heap.size w w' := by
  have BG := hide fun w => big_no5 ao xs.length ca w h.len
  have DR := hide fun w h => drawHeight ao ca xs w h
  have HC := hide h
  have HE := hide hE
  clear h hE
  generalize xs.length = n at *
  go_enter Tryd.func3, Tryd.ntmps3
  go_wp2_with fail
  refine (unhide BG _).mono ?_
  rintro e w1 ⟨rfl, rfl⟩
  go_wp2_with fail
  refine (unhide DR _ (unhide HC)).mono ?_
  rintro e w2 ⟨s, rfl, hs, b2⟩
  have s2 := b2.size
  obtain ⟨k1, k2, k3⟩ := @height_view s
  have IH := hide fun w hE => implHeight s w (by omega) hE
  have SH := hide fun w => specHeight s w (by omega)
  have IV := hide fun w hE => implViewOf s w (by omega) hE
  generalize heightAns s = hh at *
  generalize viewAns s = vv at *
  have d1 : decide (hh ≤ vv) = true := by simpa using k1
  have d2 : decide (hh ≤ 30) = true := by simpa using k2
  have d3 : decide (vv ≤ 60) = true := by simpa using k3
  clear BG DR HC
  go_wp2_with fail
  refine (unhide IH _ ((unhide HE).below b2)).mono ?_
  rintro e w3 ⟨rfl, b3⟩
  have c3 := b2.trans (b3.mono b2.size)
  clear b3 IH
  go_wp2_with fail
  refine (unhide SH _).mono ?_
  rintro e w4 ⟨rfl, b4⟩
  have c4 := c3.trans (b4.mono c3.size)
  clear b4 SH
  go_wp2_with fail
  refine (unhide IV _ ((unhide HE).below c4)).mono ?_
  rintro e w5 ⟨rfl, b5⟩
  have c5 := c4.trans (b5.mono c4.size)
  clear b5
  go_wp2_with fail
  refine (unhide IV _ ((unhide HE).below c5)).mono ?_
  rintro e w6 ⟨rfl, b6⟩
  have c6 := c5.trans (b6.mono c5.size)
  go_wp2
  go_ret
  exact ⟨rfl, c6⟩
end Go.Proofs.YtiaafigpgnimeaaDoor
