/- The walk of laws.FnExactSetAdd. -/
import Derived.Test.YtjiflmkikdkdmaaImplSets
import Derived.Test.YtjiflmkikdkdmaaSpecSets2
import Derived.Test.YtjiflmkikdkdmaaMarkInts
namespace Go.Proofs.Ytjiflmkikdkdmaa
open Go.RowKit
set_option linter.unusedSectionVars false
variable [∀ (n : Int) (s : List Int), Decidable (OkL n s)]

set_option maxHeartbeats 8000000 in
set_option maxRecDepth 100000 in
theorem fnSetAdd_long0 (i : Int) (ao : Option Addr) (n ca : Nat) (w : World) (h : 1048576 < n) :
    Calls Try.prog 6 #[.slice ao n ca, .int .i64 i] w fun e w' => e = .returned (.bool true) ∧ Below w.heap.size w w' := by
  go_enter Try.func6, Try.ntmps6
  go_wp2
  go_ret
  exact ⟨rfl, Below.refl _ _⟩

set_option maxHeartbeats 8000000 in
set_option maxRecDepth 100000 in
theorem fnSetAdd_short (i : Int) (ao : Option Addr) (ca : Nat) (xs : List Int) (w : World) (hl : xs.length ≤ 1048576) (h : RI w (.slice ao xs.length ca) xs) :
    Calls Try.prog 6 #[.slice ao xs.length ca, .int .i64 i] w fun e w' => e = .returned (.bool true) ∧ Below w.heap.size w w' := by
  have HA := hide h
  have TA := hide fun w h => toIntS_any (.slice ao xs.length ca) xs w h
  have SP := hide fun v w h hc => specSetAdd v xs i w h hc (by omega)
  have IM := hide fun v w h hc => implSetAdd v xs i w h hc (by omega)
  have hyl := add_len xs i
  generalize addL xs i = ys at *
  have e1 := imarks_len 1 xs.length
  have e2 := imarks_len 1 ys.length
  clear h
  have Bw : Below w.heap.size w w := Below.refl _ _
  go_enter Try.func6, Try.ntmps6
  go_wp2_with fail
  refine (unhide TA _ ((unhide HA).below Bw (Nat.le_refl _))).mono ?_
  rintro _ w1 ⟨voa, rfl, oa, bb⟩
  have toa : ∀ j, voa.ownBlock = some j → w.heap.size ≤ j ∧ j < w1.heap.size := World.ownsRow.lt oa
  obtain ⟨aoa, coa, rfl⟩ := oa.form
  have Bw1 := Bw.trans (bb.mono Bw.size)
  have zw1 := bb.size
  clear bb Bw
  go_wp2_with fail
  refine (unhide SP _ _ (oa.ri (by omega)) oa.cap).mono ?_
  rintro _ w2 ⟨vow, rfl, ow, bb⟩
  have tow : ∀ j, vow.ownBlock = some j → w1.heap.size ≤ j ∧ j < w2.heap.size := World.ownsRow.lt ow
  obtain ⟨aow, cow, rfl⟩ := ow.form
  have Bw2 := Bw1.trans (bb.mono Bw1.size)
  have zw2 := bb.size
  replace oa := oa.below bb
  clear bb Bw1
  go_wp2_with fail
  refine (unhide TA _ ((unhide HA).below Bw2 (Nat.le_refl _))).mono ?_
  rintro _ w3 ⟨vob, rfl, ob, bb⟩
  have tob : ∀ j, vob.ownBlock = some j → w2.heap.size ≤ j ∧ j < w3.heap.size := World.ownsRow.lt ob
  obtain ⟨aob, cob, rfl⟩ := ob.form
  have Bw3 := Bw2.trans (bb.mono Bw2.size)
  have zw3 := bb.size
  replace oa := oa.below bb
  replace ow := ow.below bb
  clear bb Bw2
  go_wp2_with fail
  refine (unhide IM _ _ (ob.ri (by omega)) ob.cap).mono ?_
  rintro _ w4 ⟨vog, rfl, og, bb⟩
  have tog : ∀ j, vog.ownBlock = some j → w3.heap.size ≤ j ∧ j < w4.heap.size := World.ownsRow.lt og
  obtain ⟨aog, cog, rfl⟩ := og.form
  have Bw4 := Bw3.trans (bb.mono Bw3.size)
  have zw4 := bb.size
  replace oa := oa.below bb
  replace ow := ow.below bb
  replace ob := ob.below bb
  clear bb Bw3
  go_wp2_with fail
  refine (eqIntS_yes _ _ ys _ (og.ri (by omega)) (ow.ri (by omega))).mono ?_
  rintro _ w5 ⟨rfl, nd, ed⟩
  have bb : Below w4.heap.size w4 w5 := ed ▸ below_drewN' (Below.refl _ _) nd
  clear ed
  have Bw5 := Bw4.trans (bb.mono Bw4.size)
  have zw5 := bb.size
  replace oa := oa.below bb
  replace ow := ow.below bb
  replace ob := ob.below bb
  replace og := og.below bb
  clear bb Bw4
  go_wp2_with fail
  refine (unhide TA _ ((unhide HA).below Bw5 (Nat.le_refl _))).mono ?_
  rintro _ w6 ⟨voc, rfl, oc, bb⟩
  have toc : ∀ j, voc.ownBlock = some j → w5.heap.size ≤ j ∧ j < w6.heap.size := World.ownsRow.lt oc
  obtain ⟨aoc, coc, rfl⟩ := oc.form
  have Bw6 := Bw5.trans (bb.mono Bw5.size)
  have zw6 := bb.size
  replace oa := oa.below bb
  replace ow := ow.below bb
  replace ob := ob.below bb
  replace og := og.below bb
  clear bb Bw5
  go_wp2_with fail
  refine (eqIntS_yes _ _ xs _ (ob.ri (by omega)) (oc.ri (by omega))).mono ?_
  rintro _ w7 ⟨rfl, nd, ed⟩
  have bb : Below w6.heap.size w6 w7 := ed ▸ below_drewN' (Below.refl _ _) nd
  clear ed
  have Bw7 := Bw6.trans (bb.mono Bw6.size)
  have zw7 := bb.size
  replace oa := oa.below bb
  replace ow := ow.below bb
  replace ob := ob.below bb
  replace og := og.below bb
  replace oc := oc.below bb
  clear bb Bw6
  go_wp2_with fail
  refine (imark_any _ 1 _ xs w7 (by omega) (by omega) ob).mono ?_
  rintro _ w8 ⟨rfl, om, gm⟩
  replace oa := OI.grown oa gm (fun k hk e => by have h1 := toa k hk; have h2 := tob k e; omega)
  replace ow := OI.grown ow gm (fun k hk e => by have h1 := tow k hk; have h2 := tob k e; omega)
  replace og := OI.grown og gm (fun k hk e => by have h1 := tog k hk; have h2 := tob k e; omega)
  replace oc := OI.grown oc gm (fun k hk e => by have h1 := toc k hk; have h2 := tob k e; omega)
  have Bw8 := Bw7.grown gm Bw7.size (fun k e => by have := tob k e; omega)
  have zw8 := gm.size
  replace ob := om
  clear om gm Bw7
  have hk1 : decide ((1 : Int) + (xs.length : Int) < 0) = false := by simp; omega
  have hk2 : decide (((1 : Nat) : Int) + (xs.length : Int) < 0) = false := by simp; omega
  go_wp2_with fail
  refine (eqIntS_yes _ _ ys _ (og.ri (by omega)) (ow.ri (by omega))).mono ?_
  rintro _ w9 ⟨rfl, nd, ed⟩
  have bb : Below w8.heap.size w8 w9 := ed ▸ below_drewN' (Below.refl _ _) nd
  clear ed
  have Bw9 := Bw8.trans (bb.mono Bw8.size)
  have zw9 := bb.size
  replace oa := oa.below bb
  replace ow := ow.below bb
  replace ob := ob.below bb
  replace og := og.below bb
  replace oc := oc.below bb
  clear bb Bw8
  go_wp2_with fail
  refine (imark_any _ 1 _ ys w9 (by omega) (by omega) og).mono ?_
  rintro _ w10 ⟨rfl, om, gm⟩
  replace oa := OI.grown oa gm (fun k hk e => by have h1 := toa k hk; have h2 := tog k e; omega)
  replace ow := OI.grown ow gm (fun k hk e => by have h1 := tow k hk; have h2 := tog k e; omega)
  replace ob := OI.grown ob gm (fun k hk e => by have h1 := tob k hk; have h2 := tog k e; omega)
  replace oc := OI.grown oc gm (fun k hk e => by have h1 := toc k hk; have h2 := tog k e; omega)
  have Bw10 := Bw9.grown gm Bw9.size (fun k e => by have := tog k e; omega)
  have zw10 := gm.size
  replace og := om
  clear om gm Bw9
  have hg1 : decide ((1 : Int) + (ys.length : Int) < 0) = false := by simp; omega
  have hg2 : decide (((1 : Nat) : Int) + (ys.length : Int) < 0) = false := by simp; omega
  go_wp2_with fail
  refine (iheld_any _ ys.length 1 _ (by omega) (og.ri (by rw [imarks_len]; omega))).mono ?_
  rintro _ w11 ⟨rfl, ed⟩
  have bb : Below w10.heap.size w10 w11 := ed ▸ Below.refl _ _
  clear ed
  have Bw11 := Bw10.trans (bb.mono Bw10.size)
  have zw11 := bb.size
  replace oa := oa.below bb
  replace ow := ow.below bb
  replace ob := ob.below bb
  replace og := og.below bb
  replace oc := oc.below bb
  clear bb Bw10
  go_wp2_with fail
  refine (unhide TA _ ((unhide HA).below Bw11 (Nat.le_refl _))).mono ?_
  rintro _ w12 ⟨vod, rfl, od, bb⟩
  have tod : ∀ j, vod.ownBlock = some j → w11.heap.size ≤ j ∧ j < w12.heap.size := World.ownsRow.lt od
  obtain ⟨aod, cod, rfl⟩ := od.form
  have Bw12 := Bw11.trans (bb.mono Bw11.size)
  have zw12 := bb.size
  replace oa := oa.below bb
  replace ow := ow.below bb
  replace ob := ob.below bb
  replace og := og.below bb
  replace oc := oc.below bb
  clear bb Bw11
  go_wp2_with fail
  refine (unhide IM _ _ (od.ri (by omega)) od.cap).mono ?_
  rintro _ w13 ⟨voh, rfl, oh, bb⟩
  have toh : ∀ j, voh.ownBlock = some j → w12.heap.size ≤ j ∧ j < w13.heap.size := World.ownsRow.lt oh
  obtain ⟨aoh, coh, rfl⟩ := oh.form
  have Bw13 := Bw12.trans (bb.mono Bw12.size)
  have zw13 := bb.size
  replace oa := oa.below bb
  replace ow := ow.below bb
  replace ob := ob.below bb
  replace og := og.below bb
  replace oc := oc.below bb
  replace od := od.below bb
  clear bb Bw12
  go_wp2_with fail
  refine (eqIntS_yes _ _ ys _ (oh.ri (by omega)) (ow.ri (by omega))).mono ?_
  rintro _ w14 ⟨rfl, nd, ed⟩
  have bb : Below w13.heap.size w13 w14 := ed ▸ below_drewN' (Below.refl _ _) nd
  clear ed
  have Bw14 := Bw13.trans (bb.mono Bw13.size)
  have zw14 := bb.size
  replace oa := oa.below bb
  replace ow := ow.below bb
  replace ob := ob.below bb
  replace og := og.below bb
  replace oc := oc.below bb
  replace od := od.below bb
  replace oh := oh.below bb
  clear bb Bw13
  go_wp2_with fail
  refine (iheld_any _ ys.length 1 _ (by omega) (og.ri (by rw [imarks_len]; omega))).mono ?_
  rintro _ w15 ⟨rfl, ed⟩
  have bb : Below w14.heap.size w14 w15 := ed ▸ Below.refl _ _
  clear ed
  have Bw15 := Bw14.trans (bb.mono Bw14.size)
  have zw15 := bb.size
  replace oa := oa.below bb
  replace ow := ow.below bb
  replace ob := ob.below bb
  replace og := og.below bb
  replace oc := oc.below bb
  replace od := od.below bb
  replace oh := oh.below bb
  clear bb Bw14
  go_wp2
  go_ret
  exact ⟨rfl, Bw15⟩
theorem fnSetAdd_walk (i : Int) (ao : Option Addr) (ca : Nat) (xs : List Int) (w : World) (h : (xs = [] ∨ ∃ b off, ao = some ⟨b, off, none⟩ ∧ ∀ k, k < xs.length → w.cell? ⟨b, off + k, none⟩ = some (.int .i64 (xs.getD k 0)))) :
    Calls Try.prog 6 #[.slice ao xs.length ca, .int .i64 i] w fun e w' => e = .returned (.bool true) ∧ Below w.heap.size w w' := by
  by_cases h1 : xs.length ≤ 1048576
  · exact fnSetAdd_short i ao ca xs w h1 ⟨by omega, ao, ca, rfl, h⟩
  · exact fnSetAdd_long0 i ao _ ca w (by omega)
end Go.Proofs.Ytjiflmkikdkdmaa
