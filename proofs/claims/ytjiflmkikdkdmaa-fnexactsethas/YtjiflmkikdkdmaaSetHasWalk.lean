/- The walk of laws.FnExactSetHas. -/
import Derived.Test.YtjiflmkikdkdmaaImplSets
import Derived.Test.YtjiflmkikdkdmaaSpecSets2
import Derived.Test.YtjiflmkikdkdmaaMarkInts
namespace Go.Proofs.Ytjiflmkikdkdmaa
open Go.RowKit
set_option linter.unusedSectionVars false
variable [∀ (n : Int) (s : List Int), Decidable (OkL n s)]

set_option maxHeartbeats 8000000 in
set_option maxRecDepth 100000 in
theorem fnSetHas_long0 (i : Int) (ao : Option Addr) (n ca : Nat) (w : World) (h : 1048576 < n) :
    Calls Try.prog 5 #[.slice ao n ca, .int .i64 i] w fun e w' => e = .returned (.bool true) ∧ Below w.heap.size w w' := by
  go_enter Try.func5, Try.ntmps5
  go_wp2
  go_ret
  exact ⟨rfl, Below.refl _ _⟩

set_option maxHeartbeats 8000000 in
set_option maxRecDepth 100000 in
theorem fnSetHas_short (i : Int) (ao : Option Addr) (ca : Nat) (xs : List Int) (w : World) (hl : xs.length ≤ 1048576) (h : RI w (.slice ao xs.length ca) xs) :
    Calls Try.prog 5 #[.slice ao xs.length ca, .int .i64 i] w fun e w' => e = .returned (.bool true) ∧ Below w.heap.size w w' := by
  have HA := hide h
  have TO := hide fun w h => toIntS_any (.slice ao xs.length ca) xs w h
  have SP := hide fun v w h => specSetHas v xs i w h
  have IM := hide fun v w h => implSetHas v xs i w h
  generalize decide (i ∈ xs) = q at *
  have hq : (q != q) = false := by simp
  clear h
  have Bw : Below w.heap.size w w := Below.refl _ _
  go_enter Try.func5, Try.ntmps5
  go_wp2_with fail
  refine (unhide TO _ ((unhide HA).below Bw (Nat.le_refl _))).mono ?_
  rintro _ w1 ⟨voa, rfl, oa, bb⟩
  have toa : ∀ j, voa.ownBlock = some j → w.heap.size ≤ j ∧ j < w1.heap.size := World.ownsRow.lt oa
  obtain ⟨aoa, coa, rfl⟩ := oa.form
  have Bw1 := Bw.trans (bb.mono Bw.size)
  have zw1 := bb.size
  clear bb Bw
  go_wp2_with fail
  refine (unhide SP _ _ (oa.ri (by omega))).mono ?_
  rintro _ w2 ⟨rfl, ed⟩
  have bb : Below w1.heap.size w1 w2 := ed ▸ Below.refl _ _
  clear ed
  have Bw2 := Bw1.trans (bb.mono Bw1.size)
  have zw2 := bb.size
  replace oa := oa.below bb
  clear bb Bw1
  go_wp2_with fail
  refine (unhide TO _ ((unhide HA).below Bw2 (Nat.le_refl _))).mono ?_
  rintro _ w3 ⟨vob, rfl, ob, bb⟩
  have tob : ∀ j, vob.ownBlock = some j → w2.heap.size ≤ j ∧ j < w3.heap.size := World.ownsRow.lt ob
  obtain ⟨aob, cob, rfl⟩ := ob.form
  have Bw3 := Bw2.trans (bb.mono Bw2.size)
  have zw3 := bb.size
  replace oa := oa.below bb
  clear bb Bw2
  go_wp2_with fail
  refine (unhide IM _ _ (ob.ri (by omega))).mono ?_
  rintro _ w4 ⟨rfl, bb⟩
  have Bw4 := Bw3.trans (bb.mono Bw3.size)
  have zw4 := bb.size
  replace oa := oa.below bb
  replace ob := ob.below bb
  clear bb Bw3
  go_wp2_with fail
  refine (unhide TO _ ((unhide HA).below Bw4 (Nat.le_refl _))).mono ?_
  rintro _ w5 ⟨voc, rfl, oc, bb⟩
  have toc : ∀ j, voc.ownBlock = some j → w4.heap.size ≤ j ∧ j < w5.heap.size := World.ownsRow.lt oc
  obtain ⟨aoc, coc, rfl⟩ := oc.form
  have Bw5 := Bw4.trans (bb.mono Bw4.size)
  have zw5 := bb.size
  replace oa := oa.below bb
  replace ob := ob.below bb
  clear bb Bw4
  go_wp2_with fail
  refine (eqIntS_yes _ _ xs _ (ob.ri (by omega)) (oc.ri (by omega))).mono ?_
  rintro _ w6 ⟨rfl, nd, ed⟩
  have bb : Below w5.heap.size w5 w6 := ed ▸ below_drewN' (Below.refl _ _) nd
  clear ed
  have Bw6 := Bw5.trans (bb.mono Bw5.size)
  have zw6 := bb.size
  replace oa := oa.below bb
  replace ob := ob.below bb
  replace oc := oc.below bb
  clear bb Bw5
  go_wp2
  go_ret
  exact ⟨rfl, Bw6⟩
theorem fnSetHas_walk (i : Int) (ao : Option Addr) (ca : Nat) (xs : List Int) (w : World) (h : (xs = [] ∨ ∃ b off, ao = some ⟨b, off, none⟩ ∧ ∀ k, k < xs.length → w.cell? ⟨b, off + k, none⟩ = some (.int .i64 (xs.getD k 0)))) :
    Calls Try.prog 5 #[.slice ao xs.length ca, .int .i64 i] w fun e w' => e = .returned (.bool true) ∧ Below w.heap.size w w' := by
  by_cases h1 : xs.length ≤ 1048576
  · exact fnSetHas_short i ao ca xs w h1 ⟨by omega, ao, ca, rfl, h⟩
  · exact fnSetHas_long0 i ao _ ca w (by omega)
end Go.Proofs.Ytjiflmkikdkdmaa
