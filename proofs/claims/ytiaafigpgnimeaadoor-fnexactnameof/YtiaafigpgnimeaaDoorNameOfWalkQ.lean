/- The walk of laws.FnExactNameOf. -/
import Derived.Test.YtiaafigpgnimeaaDoorBunI
/- The walk of laws.FnExactNameOf. -/
namespace Go.Proofs.YtiaafigpgnimeaaDoor
open Go.RowKit

set_option maxHeartbeats 400000 in
set_option maxRecDepth 100000 in
theorem fnNameOf_long (up : ByteArray) (view : Int) (v : Value) (w : World) (hs : 1048576 < up.size) :
    Calls Tryd.prog 6 #[.string up, .int .i64 view, v] w fun e w' => e = .returned (.bool true) ∧ Below w.heap.size w w' := by
  go_enter Tryd.func6, Tryd.ntmps6
  go_wp2
  go_ret
  exact ⟨rfl, Below.refl _ _⟩
set_option maxHeartbeats 400000 in
set_option maxRecDepth 100000 in
theorem fnNameOf_many (up : ByteArray) (view : Int) (ao : Option Addr) (n ca : Nat) (w : World) (hs : up.size ≤ 1048576) (hn : 1048576 < n) (hm : n ≤ 9223372036854775807) :
    Calls Tryd.prog 6 #[.string up, .int .i64 view, .slice ao n ca] w fun e w' => e = .returned (.bool true) ∧ Below w.heap.size w w' := by
  go_enter Tryd.func6, Tryd.ntmps6
  go_wp2_with fail
  refine (sz_no ao n ca _ hn hm).mono ?_
  rintro e w' ⟨rfl, rfl⟩
  go_wp2
  go_ret
  exact ⟨rfl, Below.refl _ _⟩

set_option maxHeartbeats 4000000 in
set_option maxRecDepth 100000 in
theorem fnNameOf_short (up : ByteArray) (view : Int) (ao : Option Addr) (ca : Nat) (xs : List T4) (w : World) (hs : up.size ≤ 1048576) (hl : xs.length ≤ 1048576) (h0 : -9223372036854775808 ≤ view) (h1 : view ≤ 9223372036854775807) (h : AR w ao xs) (hE : Env w) :
    Calls Tryd.prog 6 #[.string up, .int .i64 view, .slice ao xs.length ca] w fun e w' => e = .returned (.bool true) ∧ Below w.heap.size w w' := by
  have HE := hide hE
  have HA := hide h
  have TO := hide fun w h => toTxS_any ao ca xs w (by omega) h
  have SP := hide fun v w h => specNameOfW up view v xs w (by omega) (by omega) h0 h1 h
  have IM := hide fun v w h hE => implNameOf up view v xs w (by omega) (by omega) h0 h1 h hE
  generalize nameAns up view xs = t at *
  clear hE h
  have hd : decide ((1048576 : Int) - (xs.length : Int) < 0) = false := by simp; omega
  go_enter Tryd.func6, Tryd.ntmps6
  go_wp2_with fail
  refine (sz_yes ao xs.length ca _ hl).mono ?_
  rintro e w' ⟨rfl, rfl⟩
  go_wp2_with fail
  refine (unhide TO _ (unhide HA)).mono ?_
  rintro e w1 ⟨v0, rfl, o0, b1⟩
  have s1 := b1.size
  go_wp2_with fail
  refine (unhide SP _ _ (o0.rt (by omega))).mono ?_
  rintro e w2 ⟨rfl, b2⟩
  have c2 := b1.trans (b2.mono s1)
  have s2 := c2.size
  clear o0 SP b1 b2
  go_wp2_with fail
  refine (unhide TO _ ((unhide HA).below c2)).mono ?_
  rintro e w3 ⟨v1, rfl, o1, b3⟩
  have c3 := c2.trans (b3.mono s2)
  have s3 := c3.size
  go_wp2_with fail
  refine (unhide IM _ _ (o1.rt (by omega)) ((unhide HE).below c3)).mono ?_
  rintro e w4 ⟨rfl, b4⟩
  have o1' := o1.below b4
  have c4 := c3.trans (b4.mono s3)
  have s4 := c4.size
  clear o1 IM b3 b4 c2 c3
  go_wp2_with fail
  refine (unhide TO _ ((unhide HA).below c4)).mono ?_
  rintro e w5 ⟨v2, rfl, o2, b5⟩
  have o1'' := o1'.below b5
  have c5 := c4.trans (b5.mono s4)
  have s5 := c5.size
  go_wp2_with fail
  refine (eqTxS_yes v1 v2 xs _ (o1''.rt (by omega)) (o2.rt (by omega))).mono ?_
  rintro e w6 ⟨rfl, b6⟩
  have c6 := c5.trans (b6.mono s5)
  go_wp2
  go_ret
  exact ⟨rfl, c6⟩

theorem fnNameOf_walk (up : ByteArray) (view : Int) (ao : Option Addr) (ca : Nat) (xs : List T4) (w : World) (h0 : -9223372036854775808 ≤ view) (h1 : view ≤ 9223372036854775807) (hm : xs.length ≤ maxLen) (h : AR w ao xs) (hE : Env w) :
    Calls Tryd.prog 6 #[.string up, .int .i64 view, .slice ao xs.length ca] w fun e w' => e = .returned (.bool true) ∧ Below w.heap.size w w' := by
  by_cases hs : up.size ≤ 1048576
  · by_cases hl : xs.length ≤ 1048576
    · exact fnNameOf_short up view ao ca xs w hs hl h0 h1 h hE
    · exact fnNameOf_many up view ao xs.length ca w hs (by omega) (by unfold maxLen at hm; omega)
  · exact fnNameOf_long up view _ w (by omega)
end Go.Proofs.YtiaafigpgnimeaaDoor
