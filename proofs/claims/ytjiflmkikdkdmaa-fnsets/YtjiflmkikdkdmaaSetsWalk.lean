/- The walk of laws.FnSets. -/
import Derived.Test.YtjiflmkikdkdmaaImplSets
import Derived.Test.YtjiflmkikdkdmaaSpecSets2
import Derived.Test.YtjiflmkikdkdmaaSameL
import Derived.Test.YtjiflmkikdkdmaaDrawSets
namespace Go.Proofs.Ytjiflmkikdkdmaa
open Go.RowKit
set_option linter.unusedSectionVars false
variable [∀ (n : Int) (s : List Int), Decidable (OkL n s)]

set_option maxHeartbeats 800000 in
set_option maxRecDepth 100000 in
theorem fnSets_big (ao : Option Addr) (n ca : Nat) (w : World) (h : 1048576 < n) (hn : n ≤ 9223372036854775807) :
    Calls Try.prog 3 #[.slice ao n ca] w fun e w' => e = .returned (.bool true) ∧ Below w.heap.size w w' := by
  have BG := hide fun w => big_any ao n ca w hn
  rw [decide_eq_true h] at BG
  go_enter Try.func3, Try.ntmps3
  go_wp2_with fail
  refine (unhide BG _).mono ?_
  rintro e w1 ⟨rfl, b1⟩
  go_wp2
  go_ret
  exact ⟨rfl, b1⟩

set_option maxHeartbeats 16000000 in
set_option maxRecDepth 100000 in
theorem fnSets_small (ao : Option Addr) (ca : Nat) (zs : List Int) (w : World) (h : SCode w ao zs) :
    Calls Try.prog 3 #[.slice ao zs.length ca] w fun e w' => e = .returned (.bool true) ∧ Below w.heap.size w w' := by
  have BG := hide fun w => big_any ao zs.length ca w (by have := h.len; omega)
  rw [decide_eq_false (by have := h.len; omega : ¬ 1048576 < zs.length)] at BG
  have D1 := hide fun w h => drawSetJoin ao ca zs w h
  have D2 := hide fun w h => drawSetAdd ao ca zs w h
  have D3 := hide fun w h => drawSetOk ao ca zs w h
  have HC := hide h
  have Bw : Below w.heap.size w w := Below.refl _ _
  clear h
  generalize zs.length = nn at *
  go_enter Try.func3, Try.ntmps3
  go_wp2_with fail
  refine (unhide BG _).mono ?_
  rintro _ w1 ⟨rfl, bb⟩
  have Bw1 := Bw.trans (bb.mono Bw.size)
  have zw1 := bb.size
  clear bb Bw
  go_wp2_with fail
  refine (unhide D1 _ ((unhide HC).below Bw1)).mono ?_
  rintro _ w2 ⟨va, vb, xs, ys, rfl, hx, hy, wx, wy, oa, ob, bb⟩
  obtain ⟨aa, ca1, rfl⟩ := oa.form
  obtain ⟨ab, cb1, rfl⟩ := ob.form
  clear BG D1
  have Bw2 := Bw1.trans (bb.mono Bw1.size)
  have zw2 := bb.size
  clear bb Bw1
  have IJ := hide fun v u w h h' => implSetJoin v u xs ys w h h' (unhide wx) (unhide wy) (by omega)
  have SJ := hide fun v u w h h' => specSetJoin v u xs ys w h h' (by omega)
  have IJ2 := hide fun v u w h h' => implSetJoin v u ys xs w h h' (unhide wy) (unhide wx) (by omega)
  rw [join_comm ys xs] at IJ2
  have hjl : (joinL xs ys).length ≤ 18 := by have := fold_len (xs ++ ys) []; rw [List.length_append, List.length_nil] at this; unfold joinL; omega
  have HLEN : Hid (OkL 9 xs → OkL 9 ys → OkL 9 (joinL xs ys) ∧ (xs.length : Int) + (ys.length : Int) - (comL xs ys : Int) = ((joinL xs ys).length : Int) ∧ comL xs ys = comL ys xs) := hide fun h1 h2 => ⟨ok_join h1 h2, by have := join_len xs ys h1.2 h2.2; omega, com_comm xs ys h1.2 h2.2⟩
  have hcl := com_le xs ys
  have hcl2 := com_le ys xs
  generalize joinL xs ys = js at *
  go_wp2_with fail
  refine (unhide IJ _ _ w2 (oa.ri (by omega)) (ob.ri (by omega))).mono ?_
  rintro _ w3 ⟨voj, rfl, oj, bb⟩
  have toj : ∀ j, voj.ownBlock = some j → w2.heap.size ≤ j ∧ j < w3.heap.size := World.ownsRow.lt oj
  obtain ⟨aoj, coj, rfl⟩ := oj.form
  have Bw3 := Bw2.trans (bb.mono Bw2.size)
  have zw3 := bb.size
  replace oa := oa.below bb
  replace ob := ob.below bb
  clear bb Bw2
  go_wp2_with fail
  refine (unhide D2 _ ((unhide HC).below Bw3)).mono ?_
  rintro _ w4 ⟨vs, ss, i, rfl, hs, hi, os, bb⟩
  obtain ⟨as1, cs1, rfl⟩ := os.form
  have osc := os.cap
  clear D2
  have Bw4 := Bw3.trans (bb.mono Bw3.size)
  have zw4 := bb.size
  replace oa := oa.below bb
  replace ob := ob.below bb
  replace oj := oj.below bb
  clear bb Bw3
  have IA := hide fun v w h hc => implSetAdd v ss i w h hc (by omega)
  have SA := hide fun v w h hc => specSetAdd v ss i w h hc (by omega)
  have IH := hide fun v w h => implSetHas v ss i w h
  have SH := hide fun v w h => specSetHas v ss i w h
  have hal := add_len ss i
  have HIN : Hid (i ∈ addL ss i) := hide ((mem_add ss i i).2 (.inr rfl))
  generalize addL ss i = ts at *
  go_wp2_with fail
  refine (unhide IA _ w4 (os.ri (by omega)) osc).mono ?_
  rintro _ w5 ⟨vot, rfl, ot, bb⟩
  have tot : ∀ j, vot.ownBlock = some j → w4.heap.size ≤ j ∧ j < w5.heap.size := World.ownsRow.lt ot
  obtain ⟨aot, cot, rfl⟩ := ot.form
  have Bw5 := Bw4.trans (bb.mono Bw4.size)
  have zw5 := bb.size
  replace oa := oa.below bb
  replace ob := ob.below bb
  replace oj := oj.below bb
  replace os := os.below bb
  clear bb Bw4
  have IHT := hide fun v w h => implSetHas v ts i w h
  rw [decide_eq_true (unhide HIN)] at IHT
  clear HIN
  go_wp2_with fail
  refine (unhide D3 _ ((unhide HC).below Bw5)).mono ?_
  rintro _ w6 ⟨vo, m, qs, rfl, hq, oo, bb⟩
  obtain ⟨ao1, co1, rfl⟩ := oo.form
  clear D3 HC
  have Bw6 := Bw5.trans (bb.mono Bw5.size)
  have zw6 := bb.size
  replace oa := oa.below bb
  replace ob := ob.below bb
  replace oj := oj.below bb
  replace os := os.below bb
  replace ot := ot.below bb
  clear bb Bw5
  have IO := hide fun v w h => implSetOk m v qs w h
  have SO := hide fun v w h => specSetOk m v qs w h
  have IOA := hide fun v w h => implSetOk 9 v xs w h
  have IOB := hide fun v w h => implSetOk 9 v ys w h
  have IOJ := hide fun v w h => implSetOk 9 v js w h
  have IC := hide fun v u w h h' => implCommon v u xs ys w h h' (unhide wx) (unhide wy)
  have SC := hide fun v u w h h' => specCommon v u xs ys w h h'
  have IC2 := hide fun v u w h h' => implCommon v u ys xs w h h' (unhide wy) (unhide wx)
  generalize comL xs ys = c at *
  generalize comL ys xs = c2 at *
  generalize decide (OkL m qs) = q1 at *
  generalize decide (i ∈ ss) = q2 at *
  have e1 : (q1 != q1) = false := by simp
  have e2 : (q2 != q2) = false := by simp
  go_wp2_with fail
  refine (unhide SJ _ _ w6 (oa.ri (by omega)) (ob.ri (by omega))).mono ?_
  rintro _ w7 ⟨vo1, rfl, o1, bb⟩
  have to1 : ∀ j, vo1.ownBlock = some j → w6.heap.size ≤ j ∧ j < w7.heap.size := World.ownsRow.lt o1
  obtain ⟨ao1, co1, rfl⟩ := o1.form
  have Bw7 := Bw6.trans (bb.mono Bw6.size)
  have zw7 := bb.size
  replace oa := oa.below bb
  replace ob := ob.below bb
  replace oj := oj.below bb
  replace os := os.below bb
  replace ot := ot.below bb
  replace oo := oo.below bb
  clear bb Bw6
  go_wp2_with fail
  refine (sameInts_yes _ _ js _ (oj.ri (by omega)) (o1.ri (by omega))).mono ?_
  rintro _ w8 ⟨rfl, nd, ed⟩
  have bb : Below w7.heap.size w7 w8 := ed ▸ below_drewN' (Below.refl _ _) nd
  clear ed
  have Bw8 := Bw7.trans (bb.mono Bw7.size)
  have zw8 := bb.size
  replace oa := oa.below bb
  replace ob := ob.below bb
  replace oj := oj.below bb
  replace os := os.below bb
  replace ot := ot.below bb
  replace oo := oo.below bb
  replace o1 := o1.below bb
  clear bb Bw7
  go_wp2_with fail
  refine (unhide SA _ w8 (os.ri (by omega)) osc).mono ?_
  rintro _ w9 ⟨vo2, rfl, o2, bb⟩
  have to2 : ∀ j, vo2.ownBlock = some j → w8.heap.size ≤ j ∧ j < w9.heap.size := World.ownsRow.lt o2
  obtain ⟨ao2, co2, rfl⟩ := o2.form
  have Bw9 := Bw8.trans (bb.mono Bw8.size)
  have zw9 := bb.size
  replace oa := oa.below bb
  replace ob := ob.below bb
  replace oj := oj.below bb
  replace os := os.below bb
  replace ot := ot.below bb
  replace oo := oo.below bb
  replace o1 := o1.below bb
  clear bb Bw8
  go_wp2_with fail
  refine (sameInts_yes _ _ ts _ (ot.ri (by omega)) (o2.ri (by omega))).mono ?_
  rintro _ w10 ⟨rfl, nd, ed⟩
  have bb : Below w9.heap.size w9 w10 := ed ▸ below_drewN' (Below.refl _ _) nd
  clear ed
  have Bw10 := Bw9.trans (bb.mono Bw9.size)
  have zw10 := bb.size
  replace oa := oa.below bb
  replace ob := ob.below bb
  replace oj := oj.below bb
  replace os := os.below bb
  replace ot := ot.below bb
  replace oo := oo.below bb
  replace o1 := o1.below bb
  replace o2 := o2.below bb
  clear bb Bw9
  go_wp2_with fail
  refine (unhide IO _ _ (oo.ri (by omega))).mono ?_
  rintro _ w11 ⟨rfl, bb⟩
  have Bw11 := Bw10.trans (bb.mono Bw10.size)
  have zw11 := bb.size
  replace oa := oa.below bb
  replace ob := ob.below bb
  replace oj := oj.below bb
  replace os := os.below bb
  replace ot := ot.below bb
  replace oo := oo.below bb
  replace o1 := o1.below bb
  replace o2 := o2.below bb
  clear bb Bw10
  go_wp2_with fail
  refine (unhide SO _ _ (oo.ri (by omega))).mono ?_
  rintro _ w12 ⟨rfl, bb⟩
  have Bw12 := Bw11.trans (bb.mono Bw11.size)
  have zw12 := bb.size
  replace oa := oa.below bb
  replace ob := ob.below bb
  replace oj := oj.below bb
  replace os := os.below bb
  replace ot := ot.below bb
  replace oo := oo.below bb
  replace o1 := o1.below bb
  replace o2 := o2.below bb
  clear bb Bw11
  go_wp2_with fail
  refine (unhide IH _ _ (os.ri (by omega))).mono ?_
  rintro _ w13 ⟨rfl, bb⟩
  have Bw13 := Bw12.trans (bb.mono Bw12.size)
  have zw13 := bb.size
  replace oa := oa.below bb
  replace ob := ob.below bb
  replace oj := oj.below bb
  replace os := os.below bb
  replace ot := ot.below bb
  replace oo := oo.below bb
  replace o1 := o1.below bb
  replace o2 := o2.below bb
  clear bb Bw12
  go_wp2_with fail
  refine (unhide SH _ _ (os.ri (by omega))).mono ?_
  rintro _ w14 ⟨rfl, ed⟩
  have bb : Below w13.heap.size w13 w14 := ed ▸ Below.refl _ _
  clear ed
  have Bw14 := Bw13.trans (bb.mono Bw13.size)
  have zw14 := bb.size
  replace oa := oa.below bb
  replace ob := ob.below bb
  replace oj := oj.below bb
  replace os := os.below bb
  replace ot := ot.below bb
  replace oo := oo.below bb
  replace o1 := o1.below bb
  replace o2 := o2.below bb
  clear bb Bw13
  go_wp2_with fail
  refine (unhide IC _ _ _ (oa.ri (by omega)) (ob.ri (by omega))).mono ?_
  rintro _ w15 ⟨rfl, bb⟩
  have Bw15 := Bw14.trans (bb.mono Bw14.size)
  have zw15 := bb.size
  replace oa := oa.below bb
  replace ob := ob.below bb
  replace oj := oj.below bb
  replace os := os.below bb
  replace ot := ot.below bb
  replace oo := oo.below bb
  replace o1 := o1.below bb
  replace o2 := o2.below bb
  clear bb Bw14
  go_wp2_with fail
  refine (unhide SC _ _ _ (oa.ri (by omega)) (ob.ri (by omega))).mono ?_
  rintro _ w16 ⟨rfl, ed⟩
  have bb : Below w15.heap.size w15 w16 := ed ▸ Below.refl _ _
  clear ed
  have Bw16 := Bw15.trans (bb.mono Bw15.size)
  have zw16 := bb.size
  replace oa := oa.below bb
  replace ob := ob.below bb
  replace oj := oj.below bb
  replace os := os.below bb
  replace ot := ot.below bb
  replace oo := oo.below bb
  replace o1 := o1.below bb
  replace o2 := o2.below bb
  clear bb Bw15
  by_cases hA : OkL 9 xs
  · rw [decide_eq_true hA] at IOA
    go_wp2_with fail
    refine (unhide IOA _ _ (oa.ri (by omega))).mono ?_
    rintro _ w17 ⟨rfl, bb⟩
    have Bw17 := Bw16.trans (bb.mono Bw16.size)
    have zw17 := bb.size
    replace oa := oa.below bb
    replace ob := ob.below bb
    replace oj := oj.below bb
    replace os := os.below bb
    replace ot := ot.below bb
    replace oo := oo.below bb
    replace o1 := o1.below bb
    replace o2 := o2.below bb
    clear bb Bw16
    by_cases hB : OkL 9 ys
    · rw [decide_eq_true hB] at IOB
      obtain ⟨g1, g2, rfl⟩ := unhide HLEN hA hB
      rw [decide_eq_true g1] at IOJ
      clear g1 hA hB HLEN
      go_wp2_with fail
      refine (unhide IOB _ _ (ob.ri (by omega))).mono ?_
      rintro _ w18 ⟨rfl, bb⟩
      have Bw18 := Bw17.trans (bb.mono Bw17.size)
      have zw18 := bb.size
      replace oa := oa.below bb
      replace ob := ob.below bb
      replace oj := oj.below bb
      replace os := os.below bb
      replace ot := ot.below bb
      replace oo := oo.below bb
      replace o1 := o1.below bb
      replace o2 := o2.below bb
      clear bb Bw17
      go_wp2_with fail
      refine (unhide IOJ _ _ (oj.ri (by omega))).mono ?_
      rintro _ w19 ⟨rfl, bb⟩
      have Bw19 := Bw18.trans (bb.mono Bw18.size)
      have zw19 := bb.size
      replace oa := oa.below bb
      replace ob := ob.below bb
      replace oj := oj.below bb
      replace os := os.below bb
      replace ot := ot.below bb
      replace oo := oo.below bb
      replace o1 := o1.below bb
      replace o2 := o2.below bb
      clear bb Bw18
      go_wp2_with fail
      refine (unhide IC _ _ _ (oa.ri (by omega)) (ob.ri (by omega))).mono ?_
      rintro _ w20 ⟨rfl, bb⟩
      have Bw20 := Bw19.trans (bb.mono Bw19.size)
      have zw20 := bb.size
      replace oa := oa.below bb
      replace ob := ob.below bb
      replace oj := oj.below bb
      replace os := os.below bb
      replace ot := ot.below bb
      replace oo := oo.below bb
      replace o1 := o1.below bb
      replace o2 := o2.below bb
      clear bb Bw19
      go_wp2_with fail
      refine (unhide IC _ _ _ (oa.ri (by omega)) (ob.ri (by omega))).mono ?_
      rintro _ w21 ⟨rfl, bb⟩
      have Bw21 := Bw20.trans (bb.mono Bw20.size)
      have zw21 := bb.size
      replace oa := oa.below bb
      replace ob := ob.below bb
      replace oj := oj.below bb
      replace os := os.below bb
      replace ot := ot.below bb
      replace oo := oo.below bb
      replace o1 := o1.below bb
      replace o2 := o2.below bb
      clear bb Bw20
      go_wp2_with fail
      refine (unhide IC2 _ _ _ (ob.ri (by omega)) (oa.ri (by omega))).mono ?_
      rintro _ w22 ⟨rfl, bb⟩
      have Bw22 := Bw21.trans (bb.mono Bw21.size)
      have zw22 := bb.size
      replace oa := oa.below bb
      replace ob := ob.below bb
      replace oj := oj.below bb
      replace os := os.below bb
      replace ot := ot.below bb
      replace oo := oo.below bb
      replace o1 := o1.below bb
      replace o2 := o2.below bb
      clear bb Bw21
      go_wp2_with fail
      refine (unhide IJ2 _ _ w22 (ob.ri (by omega)) (oa.ri (by omega))).mono ?_
      rintro _ w23 ⟨vo3, rfl, o3, bb⟩
      have to3 : ∀ j, vo3.ownBlock = some j → w22.heap.size ≤ j ∧ j < w23.heap.size := World.ownsRow.lt o3
      obtain ⟨ao3, co3, rfl⟩ := o3.form
      have Bw23 := Bw22.trans (bb.mono Bw22.size)
      have zw23 := bb.size
      replace oa := oa.below bb
      replace ob := ob.below bb
      replace oj := oj.below bb
      replace os := os.below bb
      replace ot := ot.below bb
      replace oo := oo.below bb
      replace o1 := o1.below bb
      replace o2 := o2.below bb
      clear bb Bw22
      go_wp2_with fail
      refine (sameInts_yes _ _ js _ (oj.ri (by omega)) (o3.ri (by omega))).mono ?_
      rintro _ w24 ⟨rfl, nd, ed⟩
      have bb : Below w23.heap.size w23 w24 := ed ▸ below_drewN' (Below.refl _ _) nd
      clear ed
      have Bw24 := Bw23.trans (bb.mono Bw23.size)
      have zw24 := bb.size
      replace oa := oa.below bb
      replace ob := ob.below bb
      replace oj := oj.below bb
      replace os := os.below bb
      replace ot := ot.below bb
      replace oo := oo.below bb
      replace o1 := o1.below bb
      replace o2 := o2.below bb
      replace o3 := o3.below bb
      clear bb Bw23
      go_wp2_with fail
      refine (unhide IHT _ _ (ot.ri (by omega))).mono ?_
      rintro _ w25 ⟨rfl, bb⟩
      have Bw25 := Bw24.trans (bb.mono Bw24.size)
      have zw25 := bb.size
      replace oa := oa.below bb
      replace ob := ob.below bb
      replace oj := oj.below bb
      replace os := os.below bb
      replace ot := ot.below bb
      replace oo := oo.below bb
      replace o1 := o1.below bb
      replace o2 := o2.below bb
      replace o3 := o3.below bb
      clear bb Bw24
      go_wp2
      go_ret
      exact ⟨rfl, Bw25⟩
    · rw [decide_eq_false hB] at IOB
      go_wp2_with fail
      refine (unhide IOB _ _ (ob.ri (by omega))).mono ?_
      rintro _ wz ⟨rfl, bb⟩
      have Bz := Bw17.trans (bb.mono Bw17.size)
      go_wp2
      go_ret
      exact ⟨rfl, Bz⟩
  · rw [decide_eq_false hA] at IOA
    go_wp2_with fail
    refine (unhide IOA _ _ (oa.ri (by omega))).mono ?_
    rintro _ wz ⟨rfl, bb⟩
    have Bz := Bw16.trans (bb.mono Bw16.size)
    go_wp2
    go_ret
    exact ⟨rfl, Bz⟩
theorem fnSets_walk (ao : Option Addr) (ca : Nat) (zs : List Int) (w : World) (hm : zs.length ≤ maxLen) (hx : zs = [] ∨ ∃ b off, ao = some ⟨b, off, none⟩ ∧ ∀ k, k < zs.length → w.cell? ⟨b, off + k, none⟩ = some (.int .u8 (zs.getD k 0))) (hf : ∀ k, k < zs.length → 0 ≤ zs.getD k 0 ∧ zs.getD k 0 ≤ 255) :
    Calls Try.prog 3 #[.slice ao zs.length ca] w fun e w' => e = .returned (.bool true) ∧ Below w.heap.size w w' := by
  by_cases h : zs.length ≤ 1048576
  · exact fnSets_small ao ca zs w ⟨h, hx, hf⟩
  · exact fnSets_big ao zs.length ca w (by omega) (by unfold maxLen at hm; omega)
end Go.Proofs.Ytjiflmkikdkdmaa
