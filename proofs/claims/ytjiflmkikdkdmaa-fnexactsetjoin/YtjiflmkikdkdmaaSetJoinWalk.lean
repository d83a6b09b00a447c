/- The walk of laws.FnExactSetJoin. -/
import Derived.Test.YtjiflmkikdkdmaaImplSets
import Derived.Test.YtjiflmkikdkdmaaSpecSets2
import Derived.Test.YtjiflmkikdkdmaaMarkInts
namespace Go.Proofs.Ytjiflmkikdkdmaa
open Go.RowKit
set_option linter.unusedSectionVars false
variable [∀ (n : Int) (s : List Int), Decidable (OkL n s)]

set_option maxHeartbeats 8000000 in
set_option maxRecDepth 100000 in
theorem fnSetJoin_long0 (ao bo : Option Addr) (n ca m cb : Nat) (w : World) (h : 1048576 < n) :
    Calls Try.prog 7 #[.slice ao n ca, .slice bo m cb] w fun e w' => e = .returned (.bool true) ∧ Below w.heap.size w w' := by
  go_enter Try.func7, Try.ntmps7
  go_wp2
  go_ret
  exact ⟨rfl, Below.refl _ _⟩

set_option maxHeartbeats 8000000 in
set_option maxRecDepth 100000 in
theorem fnSetJoin_long1 (ao bo : Option Addr) (n ca m cb : Nat) (w : World) (h0 : n ≤ 1048576) (h : 1048576 < m) :
    Calls Try.prog 7 #[.slice ao n ca, .slice bo m cb] w fun e w' => e = .returned (.bool true) ∧ Below w.heap.size w w' := by
  go_enter Try.func7, Try.ntmps7
  go_wp2
  go_ret
  exact ⟨rfl, Below.refl _ _⟩

set_option maxHeartbeats 8000000 in
set_option maxRecDepth 100000 in
theorem fnSetJoin_short (ao bo : Option Addr) (ca cb : Nat) (xs zs : List Int) (w : World) (hl : xs.length ≤ 1048576) (hm : zs.length ≤ 1048576) (h : RI w (.slice ao xs.length ca) xs) (h' : RI w (.slice bo zs.length cb) zs) (wa : WfL xs) (wb : WfL zs) :
    Calls Try.prog 7 #[.slice ao xs.length ca, .slice bo zs.length cb] w fun e w' => e = .returned (.bool true) ∧ Below w.heap.size w w' := by
  have HA := hide h
  have HB := hide h'
  have TA := hide fun w h => toIntS_any (.slice ao xs.length ca) xs w h
  have TB := hide fun w h => toIntS_any (.slice bo zs.length cb) zs w h
  have SP := hide fun v u w h h' => specSetJoin v u xs zs w h h' (by omega)
  have IM := hide fun v u w h h' => implSetJoin v u xs zs w h h' wa wb (by omega)
  have hyl : (joinL xs zs).length ≤ xs.length + zs.length := by have := fold_len (xs ++ zs) []; rw [List.length_append, List.length_nil] at this; unfold joinL; omega
  generalize joinL xs zs = ys at *
  clear h h' wa wb
  have Bw : Below w.heap.size w w := Below.refl _ _
  go_enter Try.func7, Try.ntmps7
  go_wp2_with fail
  refine (unhide TA _ ((unhide HA).below Bw (Nat.le_refl _))).mono ?_
  rintro _ w1 ⟨voa, rfl, oa, bb⟩
  have toa : ∀ j, voa.ownBlock = some j → w.heap.size ≤ j ∧ j < w1.heap.size := World.ownsRow.lt oa
  obtain ⟨aoa, coa, rfl⟩ := oa.form
  have Bw1 := Bw.trans (bb.mono Bw.size)
  have zw1 := bb.size
  clear bb Bw
  go_wp2_with fail
  refine (unhide TB _ ((unhide HB).below Bw1 (Nat.le_refl _))).mono ?_
  rintro _ w2 ⟨voz, rfl, oz, bb⟩
  have toz : ∀ j, voz.ownBlock = some j → w1.heap.size ≤ j ∧ j < w2.heap.size := World.ownsRow.lt oz
  obtain ⟨aoz, coz, rfl⟩ := oz.form
  have Bw2 := Bw1.trans (bb.mono Bw1.size)
  have zw2 := bb.size
  replace oa := oa.below bb
  clear bb Bw1
  go_wp2_with fail
  refine (unhide SP _ _ _ (oa.ri (by omega)) (oz.ri (by omega))).mono ?_
  rintro _ w3 ⟨vow, rfl, ow, bb⟩
  have tow : ∀ j, vow.ownBlock = some j → w2.heap.size ≤ j ∧ j < w3.heap.size := World.ownsRow.lt ow
  obtain ⟨aow, cow, rfl⟩ := ow.form
  have Bw3 := Bw2.trans (bb.mono Bw2.size)
  have zw3 := bb.size
  replace oa := oa.below bb
  replace oz := oz.below bb
  clear bb Bw2
  go_wp2_with fail
  refine (unhide TA _ ((unhide HA).below Bw3 (Nat.le_refl _))).mono ?_
  rintro _ w4 ⟨vob, rfl, ob, bb⟩
  have tob : ∀ j, vob.ownBlock = some j → w3.heap.size ≤ j ∧ j < w4.heap.size := World.ownsRow.lt ob
  obtain ⟨aob, cob, rfl⟩ := ob.form
  have Bw4 := Bw3.trans (bb.mono Bw3.size)
  have zw4 := bb.size
  replace oa := oa.below bb
  replace oz := oz.below bb
  replace ow := ow.below bb
  clear bb Bw3
  go_wp2_with fail
  refine (unhide TB _ ((unhide HB).below Bw4 (Nat.le_refl _))).mono ?_
  rintro _ w5 ⟨voc, rfl, oc, bb⟩
  have toc : ∀ j, voc.ownBlock = some j → w4.heap.size ≤ j ∧ j < w5.heap.size := World.ownsRow.lt oc
  obtain ⟨aoc, coc, rfl⟩ := oc.form
  have Bw5 := Bw4.trans (bb.mono Bw4.size)
  have zw5 := bb.size
  replace oa := oa.below bb
  replace oz := oz.below bb
  replace ow := ow.below bb
  replace ob := ob.below bb
  clear bb Bw4
  go_wp2_with fail
  refine (unhide IM _ _ _ (ob.ri (by omega)) (oc.ri (by omega))).mono ?_
  rintro _ w6 ⟨vog, rfl, og, bb⟩
  have tog : ∀ j, vog.ownBlock = some j → w5.heap.size ≤ j ∧ j < w6.heap.size := World.ownsRow.lt og
  obtain ⟨aog, cog, rfl⟩ := og.form
  have Bw6 := Bw5.trans (bb.mono Bw5.size)
  have zw6 := bb.size
  replace oa := oa.below bb
  replace oz := oz.below bb
  replace ow := ow.below bb
  replace ob := ob.below bb
  replace oc := oc.below bb
  clear bb Bw5
  go_wp2_with fail
  refine (eqIntS_yes _ _ ys _ (og.ri (by omega)) (ow.ri (by omega))).mono ?_
  rintro _ w7 ⟨rfl, nd, ed⟩
  have bb : Below w6.heap.size w6 w7 := ed ▸ below_drewN' (Below.refl _ _) nd
  clear ed
  have Bw7 := Bw6.trans (bb.mono Bw6.size)
  have zw7 := bb.size
  replace oa := oa.below bb
  replace oz := oz.below bb
  replace ow := ow.below bb
  replace ob := ob.below bb
  replace oc := oc.below bb
  replace og := og.below bb
  clear bb Bw6
  go_wp2_with fail
  refine (unhide TA _ ((unhide HA).below Bw7 (Nat.le_refl _))).mono ?_
  rintro _ w8 ⟨vod, rfl, od, bb⟩
  have tod : ∀ j, vod.ownBlock = some j → w7.heap.size ≤ j ∧ j < w8.heap.size := World.ownsRow.lt od
  obtain ⟨aod, cod, rfl⟩ := od.form
  have Bw8 := Bw7.trans (bb.mono Bw7.size)
  have zw8 := bb.size
  replace oa := oa.below bb
  replace oz := oz.below bb
  replace ow := ow.below bb
  replace ob := ob.below bb
  replace oc := oc.below bb
  replace og := og.below bb
  clear bb Bw7
  go_wp2_with fail
  refine (eqIntS_yes _ _ xs _ (ob.ri (by omega)) (od.ri (by omega))).mono ?_
  rintro _ w9 ⟨rfl, nd, ed⟩
  have bb : Below w8.heap.size w8 w9 := ed ▸ below_drewN' (Below.refl _ _) nd
  clear ed
  have Bw9 := Bw8.trans (bb.mono Bw8.size)
  have zw9 := bb.size
  replace oa := oa.below bb
  replace oz := oz.below bb
  replace ow := ow.below bb
  replace ob := ob.below bb
  replace oc := oc.below bb
  replace og := og.below bb
  replace od := od.below bb
  clear bb Bw8
  go_wp2_with fail
  refine (unhide TB _ ((unhide HB).below Bw9 (Nat.le_refl _))).mono ?_
  rintro _ w10 ⟨voe, rfl, oe, bb⟩
  have toe : ∀ j, voe.ownBlock = some j → w9.heap.size ≤ j ∧ j < w10.heap.size := World.ownsRow.lt oe
  obtain ⟨aoe, coe, rfl⟩ := oe.form
  have Bw10 := Bw9.trans (bb.mono Bw9.size)
  have zw10 := bb.size
  replace oa := oa.below bb
  replace oz := oz.below bb
  replace ow := ow.below bb
  replace ob := ob.below bb
  replace oc := oc.below bb
  replace og := og.below bb
  replace od := od.below bb
  clear bb Bw9
  go_wp2_with fail
  refine (eqIntS_yes _ _ zs _ (oc.ri (by omega)) (oe.ri (by omega))).mono ?_
  rintro _ w11 ⟨rfl, nd, ed⟩
  have bb : Below w10.heap.size w10 w11 := ed ▸ below_drewN' (Below.refl _ _) nd
  clear ed
  have Bw11 := Bw10.trans (bb.mono Bw10.size)
  have zw11 := bb.size
  replace oa := oa.below bb
  replace oz := oz.below bb
  replace ow := ow.below bb
  replace ob := ob.below bb
  replace oc := oc.below bb
  replace og := og.below bb
  replace od := od.below bb
  replace oe := oe.below bb
  clear bb Bw10
  go_wp2_with fail
  refine (imark_any _ 1 _ xs w11 (by omega) (by omega) ob).mono ?_
  rintro _ w12 ⟨rfl, om, gm⟩
  replace oa := OI.grown oa gm (fun k hk e => by have h1 := toa k hk; have h2 := tob k e; omega)
  replace oz := OI.grown oz gm (fun k hk e => by have h1 := toz k hk; have h2 := tob k e; omega)
  replace ow := OI.grown ow gm (fun k hk e => by have h1 := tow k hk; have h2 := tob k e; omega)
  replace oc := OI.grown oc gm (fun k hk e => by have h1 := toc k hk; have h2 := tob k e; omega)
  replace og := OI.grown og gm (fun k hk e => by have h1 := tog k hk; have h2 := tob k e; omega)
  replace od := OI.grown od gm (fun k hk e => by have h1 := tod k hk; have h2 := tob k e; omega)
  replace oe := OI.grown oe gm (fun k hk e => by have h1 := toe k hk; have h2 := tob k e; omega)
  have Bw12 := Bw11.grown gm Bw11.size (fun k e => by have := tob k e; omega)
  have zw12 := gm.size
  replace ob := om
  clear om gm Bw11
  have MK := imark_any _ (1 + xs.length) _ zs w12 (by omega) (by omega) oc
  have e5 : (((1 + xs.length : Nat)) : Int) = 1 + (xs.length : Int) := by omega
  rw [e5] at MK
  replace MK := hide MK
  clear e5
  go_wp2_with fail
  refine (unhide MK).mono ?_
  rintro _ w13 ⟨rfl, om, gm⟩
  clear MK
  replace oa := OI.grown oa gm (fun k hk e => by have h1 := toa k hk; have h2 := toc k e; omega)
  replace oz := OI.grown oz gm (fun k hk e => by have h1 := toz k hk; have h2 := toc k e; omega)
  replace ow := OI.grown ow gm (fun k hk e => by have h1 := tow k hk; have h2 := toc k e; omega)
  replace ob := OI.grown ob gm (fun k hk e => by have h1 := tob k hk; have h2 := toc k e; omega)
  replace og := OI.grown og gm (fun k hk e => by have h1 := tog k hk; have h2 := toc k e; omega)
  replace od := OI.grown od gm (fun k hk e => by have h1 := tod k hk; have h2 := toc k e; omega)
  replace oe := OI.grown oe gm (fun k hk e => by have h1 := toe k hk; have h2 := toc k e; omega)
  have Bw13 := Bw12.grown gm Bw12.size (fun k e => by have := toc k e; omega)
  have zw13 := gm.size
  replace oc := om
  clear om gm Bw12
  have hk1 : decide ((1 : Int) + (xs.length : Int) + (zs.length : Int) < 0) = false := by simp; omega
  go_wp2_with fail
  refine (eqIntS_yes _ _ ys _ (og.ri (by omega)) (ow.ri (by omega))).mono ?_
  rintro _ w14 ⟨rfl, nd, ed⟩
  have bb : Below w13.heap.size w13 w14 := ed ▸ below_drewN' (Below.refl _ _) nd
  clear ed
  have Bw14 := Bw13.trans (bb.mono Bw13.size)
  have zw14 := bb.size
  replace oa := oa.below bb
  replace oz := oz.below bb
  replace ow := ow.below bb
  replace ob := ob.below bb
  replace oc := oc.below bb
  replace og := og.below bb
  replace od := od.below bb
  replace oe := oe.below bb
  clear bb Bw13
  go_wp2_with fail
  refine (imark_any _ 1 _ ys w14 (by omega) (by omega) og).mono ?_
  rintro _ w15 ⟨rfl, om, gm⟩
  replace oa := OI.grown oa gm (fun k hk e => by have h1 := toa k hk; have h2 := tog k e; omega)
  replace oz := OI.grown oz gm (fun k hk e => by have h1 := toz k hk; have h2 := tog k e; omega)
  replace ow := OI.grown ow gm (fun k hk e => by have h1 := tow k hk; have h2 := tog k e; omega)
  replace ob := OI.grown ob gm (fun k hk e => by have h1 := tob k hk; have h2 := tog k e; omega)
  replace oc := OI.grown oc gm (fun k hk e => by have h1 := toc k hk; have h2 := tog k e; omega)
  replace od := OI.grown od gm (fun k hk e => by have h1 := tod k hk; have h2 := tog k e; omega)
  replace oe := OI.grown oe gm (fun k hk e => by have h1 := toe k hk; have h2 := tog k e; omega)
  have Bw15 := Bw14.grown gm Bw14.size (fun k e => by have := tog k e; omega)
  have zw15 := gm.size
  replace og := om
  clear om gm Bw14
  have hg1 : decide ((1 : Int) + (ys.length : Int) < 0) = false := by simp; omega
  go_wp2_with fail
  refine (iheld_any _ ys.length 1 _ (by omega) (og.ri (by rw [imarks_len]; omega))).mono ?_
  rintro _ w16 ⟨rfl, ed⟩
  have bb : Below w15.heap.size w15 w16 := ed ▸ Below.refl _ _
  clear ed
  have Bw16 := Bw15.trans (bb.mono Bw15.size)
  have zw16 := bb.size
  replace oa := oa.below bb
  replace oz := oz.below bb
  replace ow := ow.below bb
  replace ob := ob.below bb
  replace oc := oc.below bb
  replace og := og.below bb
  replace od := od.below bb
  replace oe := oe.below bb
  clear bb Bw15
  go_wp2_with fail
  refine (unhide TA _ ((unhide HA).below Bw16 (Nat.le_refl _))).mono ?_
  rintro _ w17 ⟨voi, rfl, oi, bb⟩
  have toi : ∀ j, voi.ownBlock = some j → w16.heap.size ≤ j ∧ j < w17.heap.size := World.ownsRow.lt oi
  obtain ⟨aoi, coi, rfl⟩ := oi.form
  have Bw17 := Bw16.trans (bb.mono Bw16.size)
  have zw17 := bb.size
  replace oa := oa.below bb
  replace oz := oz.below bb
  replace ow := ow.below bb
  replace ob := ob.below bb
  replace oc := oc.below bb
  replace og := og.below bb
  replace od := od.below bb
  replace oe := oe.below bb
  clear bb Bw16
  go_wp2_with fail
  refine (unhide TB _ ((unhide HB).below Bw17 (Nat.le_refl _))).mono ?_
  rintro _ w18 ⟨voj, rfl, oj, bb⟩
  have toj : ∀ j, voj.ownBlock = some j → w17.heap.size ≤ j ∧ j < w18.heap.size := World.ownsRow.lt oj
  obtain ⟨aoj, coj, rfl⟩ := oj.form
  have Bw18 := Bw17.trans (bb.mono Bw17.size)
  have zw18 := bb.size
  replace oa := oa.below bb
  replace oz := oz.below bb
  replace ow := ow.below bb
  replace ob := ob.below bb
  replace oc := oc.below bb
  replace og := og.below bb
  replace od := od.below bb
  replace oe := oe.below bb
  replace oi := oi.below bb
  clear bb Bw17
  go_wp2_with fail
  refine (unhide IM _ _ _ (oi.ri (by omega)) (oj.ri (by omega))).mono ?_
  rintro _ w19 ⟨voh, rfl, oh, bb⟩
  have toh : ∀ j, voh.ownBlock = some j → w18.heap.size ≤ j ∧ j < w19.heap.size := World.ownsRow.lt oh
  obtain ⟨aoh, coh, rfl⟩ := oh.form
  have Bw19 := Bw18.trans (bb.mono Bw18.size)
  have zw19 := bb.size
  replace oa := oa.below bb
  replace oz := oz.below bb
  replace ow := ow.below bb
  replace ob := ob.below bb
  replace oc := oc.below bb
  replace og := og.below bb
  replace od := od.below bb
  replace oe := oe.below bb
  replace oi := oi.below bb
  replace oj := oj.below bb
  clear bb Bw18
  go_wp2_with fail
  refine (eqIntS_yes _ _ ys _ (oh.ri (by omega)) (ow.ri (by omega))).mono ?_
  rintro _ w20 ⟨rfl, nd, ed⟩
  have bb : Below w19.heap.size w19 w20 := ed ▸ below_drewN' (Below.refl _ _) nd
  clear ed
  have Bw20 := Bw19.trans (bb.mono Bw19.size)
  have zw20 := bb.size
  replace oa := oa.below bb
  replace oz := oz.below bb
  replace ow := ow.below bb
  replace ob := ob.below bb
  replace oc := oc.below bb
  replace og := og.below bb
  replace od := od.below bb
  replace oe := oe.below bb
  replace oi := oi.below bb
  replace oj := oj.below bb
  replace oh := oh.below bb
  clear bb Bw19
  go_wp2_with fail
  refine (iheld_any _ ys.length 1 _ (by omega) (og.ri (by rw [imarks_len]; omega))).mono ?_
  rintro _ w21 ⟨rfl, ed⟩
  have bb : Below w20.heap.size w20 w21 := ed ▸ Below.refl _ _
  clear ed
  have Bw21 := Bw20.trans (bb.mono Bw20.size)
  have zw21 := bb.size
  replace oa := oa.below bb
  replace oz := oz.below bb
  replace ow := ow.below bb
  replace ob := ob.below bb
  replace oc := oc.below bb
  replace og := og.below bb
  replace od := od.below bb
  replace oe := oe.below bb
  replace oi := oi.below bb
  replace oj := oj.below bb
  replace oh := oh.below bb
  clear bb Bw20
  go_wp2
  go_ret
  exact ⟨rfl, Bw21⟩
theorem fnSetJoin_walk (ao bo : Option Addr) (ca cb : Nat) (xs ys : List Int) (w : World) (h : (xs = [] ∨ ∃ b off, ao = some ⟨b, off, none⟩ ∧ ∀ k, k < xs.length → w.cell? ⟨b, off + k, none⟩ = some (.int .i64 (xs.getD k 0)))) (h' : (ys = [] ∨ ∃ b off, bo = some ⟨b, off, none⟩ ∧ ∀ k, k < ys.length → w.cell? ⟨b, off + k, none⟩ = some (.int .i64 (ys.getD k 0)))) (wa : WfL xs) (wb : WfL ys) :
    Calls Try.prog 7 #[.slice ao xs.length ca, .slice bo ys.length cb] w fun e w' => e = .returned (.bool true) ∧ Below w.heap.size w w' := by
  by_cases h1 : xs.length ≤ 1048576
  · by_cases h2 : ys.length ≤ 1048576
    · exact fnSetJoin_short ao bo ca cb xs ys w h1 h2 ⟨by omega, ao, ca, rfl, h⟩ ⟨by omega, bo, cb, rfl, h'⟩ wa wb
    · exact fnSetJoin_long1 ao bo _ ca _ cb w h1 (by omega)
  · exact fnSetJoin_long0 ao bo _ ca _ cb w (by omega)
end Go.Proofs.Ytjiflmkikdkdmaa
