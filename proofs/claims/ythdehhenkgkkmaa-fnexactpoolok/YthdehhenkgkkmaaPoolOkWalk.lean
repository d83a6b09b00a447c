/- The walk of laws.FnExactPoolOk. -/
import Derived.Test.YthdehhenkgkkmaaPoolOk
import Derived.Test.YthdehhenkgkkmaaToTxS
namespace Go.Proofs.Ythdehhenkgkkmaa
open Go.RowKit
set_option linter.unusedSectionVars false
variable [∀ (a b c d : Int), Decidable (Ok4 a b c d)]
variable [∀ (m a b c d : Int), Decidable (In4 m a b c d)]
variable [∀ (xs ys : List Int), Decidable (LOk xs ys)]
variable [∀ (x y : T4), Decidable (Bef x y)]
variable [∀ (ts : List T4), Decidable (Asc ts)]
variable [∀ (ts : List T4), Decidable (AllOk ts)]
variable [∀ (ts : List T4), Decidable (POk ts)]

set_option maxHeartbeats 400000 in
set_option maxRecDepth 100000 in
theorem fnPoolOk_long (ao : Option Addr) (n ca : Nat) (w : World) (h : 1048576 < n) (hn : n ≤ 9223372036854775807) :
    Calls Try.prog 3 #[.slice ao n ca] w fun e w' => e = .returned (.bool true) ∧ Below w.heap.size w w' := by
  go_enter Try.func3, Try.ntmps3
  go_wp2_with fail
  refine (szTxS_no _ _ _ _ _ (by omega) (by omega) (by omega) hn).mono ?_
  rintro e w2 ⟨rfl, rfl⟩
  go_wp2
  go_ret
  exact ⟨rfl, Below.refl _ _⟩

set_option maxHeartbeats 4000000 in
set_option maxRecDepth 100000 in
theorem fnPoolOk_short (ao : Option Addr) (ca : Nat) (ts : List T4) (w : World) (h : ts.length ≤ 1048576) (hl : AR w ao ts) :
    Calls Try.prog 3 #[.slice ao ts.length ca] w fun e w' => e = .returned (.bool true) ∧ Below w.heap.size w w' := by
  have hd : decide ((1048576 : Int) - (ts.length : Int) < 0) = false := by simp; omega
  have RL : Hid (∀ w', Below w.heap.size w w' → AR w' ao ts) := hide fun w' hb' => hl.below hb'
  have SP := hide fun p w h => specPoolOk p ts w h
  have IM := hide fun p w h => implPoolOk p ts w h
  have TT := hide fun w h => toTxS_any ao ca ts w (by omega) h
  generalize decide (POk ts) = q at *
  clear hl
  go_enter Try.func3, Try.ntmps3
  have Bw : Below w.heap.size w w := Below.refl _ _
  go_wp2_with fail
  refine (szTxS_yes _ _ _ _ _ (by omega) (by omega)).mono ?_
  rintro _ w9 ⟨rfl, e9⟩
  rw [e9]
  clear e9
  go_wp2_with fail
  refine (unhide TT _ (unhide RL _ Bw)).mono ?_
  rintro _ w1 ⟨l1, rfl, ot1, bb⟩
  have Bw1 := Bw.trans (bb.mono Bw.size)
  have sw1 := bb.size
  clear Bw
  clear bb
  have rt1 := ot1.rt (by omega)
  go_wp2_with fail
  refine (unhide SP _ _ rt1).mono ?_
  rintro _ w2 ⟨rfl, bb⟩
  have Bw2 := Bw1.trans (bb.mono Bw1.size)
  have sw2 := bb.size
  clear Bw1
  clear bb
  clear ot1 rt1
  go_wp2_with fail
  refine (unhide TT _ (unhide RL _ Bw2)).mono ?_
  rintro _ w3 ⟨l2, rfl, ot2, bb⟩
  have Bw3 := Bw2.trans (bb.mono Bw2.size)
  have sw3 := bb.size
  clear Bw2
  clear bb
  have rt2 := ot2.rt (by omega)
  go_wp2_with fail
  refine (unhide IM _ _ rt2).mono ?_
  rintro _ w4 ⟨rfl, bb⟩
  have Bw4 := Bw3.trans (bb.mono Bw3.size)
  have sw4 := bb.size
  replace ot2 := ot2.below bb
  clear Bw3
  clear bb
  clear rt2
  go_wp2_with fail
  refine (unhide TT _ (unhide RL _ Bw4)).mono ?_
  rintro _ w5 ⟨l3, rfl, ot3, bb⟩
  have Bw5 := Bw4.trans (bb.mono Bw4.size)
  have sw5 := bb.size
  replace ot2 := ot2.below bb
  clear Bw4
  clear bb
  go_wp2_with fail
  refine (eqTxS_yes _ _ ts _ (ot2.rt (by omega)) (ot3.rt (by omega))).mono ?_
  rintro _ w6 ⟨rfl, bb⟩
  have Bw6 := Bw5.trans (bb.mono Bw5.size)
  have sw6 := bb.size
  replace ot2 := ot2.below bb
  replace ot3 := ot3.below bb
  clear Bw5
  clear bb
  go_wp2
  go_ret
  exact ⟨rfl, Bw6⟩

theorem fnPoolOk_walk (ao : Option Addr) (ca : Nat) (ts : List T4) (w : World) (ht : ts.length ≤ maxLen) (hl : AR w ao ts) :
    Calls Try.prog 3 #[.slice ao ts.length ca] w fun e w' => e = .returned (.bool true) ∧ Below w.heap.size w w' := by
  unfold maxLen at ht
  by_cases h : ts.length ≤ 1048576
  · exact fnPoolOk_short ao ca ts w h hl
  · exact fnPoolOk_long ao ts.length ca w (by omega) (by omega)
end Go.Proofs.Ythdehhenkgkkmaa
