/- The walk of laws.FnExactCommon. -/
import Derived.Test.YtjiflmkikdkdmaaImplSets
import Derived.Test.YtjiflmkikdkdmaaSpecSets2
import Derived.Test.YtjiflmkikdkdmaaMarkInts
namespace Go.Proofs.Ytjiflmkikdkdmaa
open Go.RowKit
set_option linter.unusedSectionVars false
variable [∀ (n : Int) (s : List Int), Decidable (OkL n s)]

set_option maxHeartbeats 8000000 in
set_option maxRecDepth 100000 in
theorem fnCommon_long0 (ao bo : Option Addr) (n ca m cb : Nat) (w : World) (h : 1048576 < n) :
    Calls Try.prog 8 #[.slice ao n ca, .slice bo m cb] w fun e w' => e = .returned (.bool true) ∧ Below w.heap.size w w' := by
  go_enter Try.func8, Try.ntmps8
  go_wp2
  go_ret
  exact ⟨rfl, Below.refl _ _⟩

set_option maxHeartbeats 8000000 in
set_option maxRecDepth 100000 in
theorem fnCommon_long1 (ao bo : Option Addr) (n ca m cb : Nat) (w : World) (h0 : n ≤ 1048576) (h : 1048576 < m) :
    Calls Try.prog 8 #[.slice ao n ca, .slice bo m cb] w fun e w' => e = .returned (.bool true) ∧ Below w.heap.size w w' := by
  go_enter Try.func8, Try.ntmps8
  go_wp2
  go_ret
  exact ⟨rfl, Below.refl _ _⟩

set_option maxHeartbeats 8000000 in
set_option maxRecDepth 100000 in
theorem fnCommon_short (ao bo : Option Addr) (ca cb : Nat) (xs ys : List Int) (w : World) (hl : xs.length ≤ 1048576) (hm : ys.length ≤ 1048576) (h : RI w (.slice ao xs.length ca) xs) (h' : RI w (.slice bo ys.length cb) ys) (wa : WfL xs) (wb : WfL ys) :
    Calls Try.prog 8 #[.slice ao xs.length ca, .slice bo ys.length cb] w fun e w' => e = .returned (.bool true) ∧ Below w.heap.size w w' := by
  have HA := hide h
  have HB := hide h'
  have TA := hide fun w h => toIntS_any (.slice ao xs.length ca) xs w h
  have TB := hide fun w h => toIntS_any (.slice bo ys.length cb) ys w h
  have SP := hide fun v u w h h' => specCommon v u xs ys w h h'
  have IM := hide fun v u w h h' => implCommon v u xs ys w h h' wa wb
  generalize comL xs ys = q at *
  clear h h' wa wb
  have Bw : Below w.heap.size w w := Below.refl _ _
  go_enter Try.func8, Try.ntmps8
  go_wp2_with fail
  refine (unhide TA _ ((unhide HA).below Bw (Nat.le_refl _))).mono ?_
  rintro _ w1 ⟨voa, rfl, oa, bb⟩
  have toa : ∀ j, voa.ownBlock = some j → w.heap.size ≤ j ∧ j < w1.heap.size := World.ownsRow.lt oa
  obtain ⟨aoa, coa, rfl⟩ := oa.form
  have Bw1 := Bw.trans (bb.mono Bw.size)
  have zw1 := bb.size
  clear bb Bw
  go_wp2_with fail
  refine (unhide TB _ ((unhide HB).below Bw1 (Nat.le_refl _))).mono ?_
  rintro _ w2 ⟨vob, rfl, ob, bb⟩
  have tob : ∀ j, vob.ownBlock = some j → w1.heap.size ≤ j ∧ j < w2.heap.size := World.ownsRow.lt ob
  obtain ⟨aob, cob, rfl⟩ := ob.form
  have Bw2 := Bw1.trans (bb.mono Bw1.size)
  have zw2 := bb.size
  replace oa := oa.below bb
  clear bb Bw1
  go_wp2_with fail
  refine (unhide SP _ _ _ (oa.ri (by omega)) (ob.ri (by omega))).mono ?_
  rintro _ w3 ⟨rfl, ed⟩
  have bb : Below w2.heap.size w2 w3 := ed ▸ Below.refl _ _
  clear ed
  have Bw3 := Bw2.trans (bb.mono Bw2.size)
  have zw3 := bb.size
  replace oa := oa.below bb
  replace ob := ob.below bb
  clear bb Bw2
  go_wp2_with fail
  refine (unhide TA _ ((unhide HA).below Bw3 (Nat.le_refl _))).mono ?_
  rintro _ w4 ⟨voc, rfl, oc, bb⟩
  have toc : ∀ j, voc.ownBlock = some j → w3.heap.size ≤ j ∧ j < w4.heap.size := World.ownsRow.lt oc
  obtain ⟨aoc, coc, rfl⟩ := oc.form
  have Bw4 := Bw3.trans (bb.mono Bw3.size)
  have zw4 := bb.size
  replace oa := oa.below bb
  replace ob := ob.below bb
  clear bb Bw3
  go_wp2_with fail
  refine (unhide TB _ ((unhide HB).below Bw4 (Nat.le_refl _))).mono ?_
  rintro _ w5 ⟨vod, rfl, od, bb⟩
  have tod : ∀ j, vod.ownBlock = some j → w4.heap.size ≤ j ∧ j < w5.heap.size := World.ownsRow.lt od
  obtain ⟨aod, cod, rfl⟩ := od.form
  have Bw5 := Bw4.trans (bb.mono Bw4.size)
  have zw5 := bb.size
  replace oa := oa.below bb
  replace ob := ob.below bb
  replace oc := oc.below bb
  clear bb Bw4
  go_wp2_with fail
  refine (unhide IM _ _ _ (oc.ri (by omega)) (od.ri (by omega))).mono ?_
  rintro _ w6 ⟨rfl, bb⟩
  have Bw6 := Bw5.trans (bb.mono Bw5.size)
  have zw6 := bb.size
  replace oa := oa.below bb
  replace ob := ob.below bb
  replace oc := oc.below bb
  replace od := od.below bb
  clear bb Bw5
  go_wp2_with fail
  refine (unhide TA _ ((unhide HA).below Bw6 (Nat.le_refl _))).mono ?_
  rintro _ w7 ⟨voe, rfl, oe, bb⟩
  have toe : ∀ j, voe.ownBlock = some j → w6.heap.size ≤ j ∧ j < w7.heap.size := World.ownsRow.lt oe
  obtain ⟨aoe, coe, rfl⟩ := oe.form
  have Bw7 := Bw6.trans (bb.mono Bw6.size)
  have zw7 := bb.size
  replace oa := oa.below bb
  replace ob := ob.below bb
  replace oc := oc.below bb
  replace od := od.below bb
  clear bb Bw6
  go_wp2_with fail
  refine (eqIntS_yes _ _ xs _ (oc.ri (by omega)) (oe.ri (by omega))).mono ?_
  rintro _ w8 ⟨rfl, nd, ed⟩
  have bb : Below w7.heap.size w7 w8 := ed ▸ below_drewN' (Below.refl _ _) nd
  clear ed
  have Bw8 := Bw7.trans (bb.mono Bw7.size)
  have zw8 := bb.size
  replace oa := oa.below bb
  replace ob := ob.below bb
  replace oc := oc.below bb
  replace od := od.below bb
  replace oe := oe.below bb
  clear bb Bw7
  go_wp2_with fail
  refine (unhide TB _ ((unhide HB).below Bw8 (Nat.le_refl _))).mono ?_
  rintro _ w9 ⟨vof, rfl, of, bb⟩
  have tof : ∀ j, vof.ownBlock = some j → w8.heap.size ≤ j ∧ j < w9.heap.size := World.ownsRow.lt of
  obtain ⟨aof, cof, rfl⟩ := of.form
  have Bw9 := Bw8.trans (bb.mono Bw8.size)
  have zw9 := bb.size
  replace oa := oa.below bb
  replace ob := ob.below bb
  replace oc := oc.below bb
  replace od := od.below bb
  replace oe := oe.below bb
  clear bb Bw8
  go_wp2_with fail
  refine (eqIntS_yes _ _ ys _ (od.ri (by omega)) (of.ri (by omega))).mono ?_
  rintro _ w10 ⟨rfl, nd, ed⟩
  have bb : Below w9.heap.size w9 w10 := ed ▸ below_drewN' (Below.refl _ _) nd
  clear ed
  have Bw10 := Bw9.trans (bb.mono Bw9.size)
  have zw10 := bb.size
  replace oa := oa.below bb
  replace ob := ob.below bb
  replace oc := oc.below bb
  replace od := od.below bb
  replace oe := oe.below bb
  replace of := of.below bb
  clear bb Bw9
  go_wp2
  go_ret
  exact ⟨rfl, Bw10⟩
theorem fnCommon_walk (ao bo : Option Addr) (ca cb : Nat) (xs ys : List Int) (w : World) (h : (xs = [] ∨ ∃ b off, ao = some ⟨b, off, none⟩ ∧ ∀ k, k < xs.length → w.cell? ⟨b, off + k, none⟩ = some (.int .i64 (xs.getD k 0)))) (h' : (ys = [] ∨ ∃ b off, bo = some ⟨b, off, none⟩ ∧ ∀ k, k < ys.length → w.cell? ⟨b, off + k, none⟩ = some (.int .i64 (ys.getD k 0)))) (wa : WfL xs) (wb : WfL ys) :
    Calls Try.prog 8 #[.slice ao xs.length ca, .slice bo ys.length cb] w fun e w' => e = .returned (.bool true) ∧ Below w.heap.size w w' := by
  by_cases h1 : xs.length ≤ 1048576
  · by_cases h2 : ys.length ≤ 1048576
    · exact fnCommon_short ao bo ca cb xs ys w h1 h2 ⟨by omega, ao, ca, rfl, h⟩ ⟨by omega, bo, cb, rfl, h'⟩ wa wb
    · exact fnCommon_long1 ao bo _ ca _ cb w h1 (by omega)
  · exact fnCommon_long0 ao bo _ ca _ cb w (by omega)
end Go.Proofs.Ytjiflmkikdkdmaa
