/- The walk of laws.FnPools. -/
import Derived.Test.YthdehhenkgkkmaaDoorPoolsPlainQ
import Derived.Test.YthdehhenkgkkmaaDoorPoolDraws2Q
import Derived.Test.YthdehhenkgkkmaaDoorBunI
import Derived.Test.YthdehhenkgkkmaaDoorBunM
import Derived.Test.YthdehhenkgkkmaaDoorBunK
import Derived.Test.YthdehhenkgkkmaaDoorBunE
/- The walk of laws.FnPools. -/
namespace Go.Proofs.YthdehhenkgkkmaaDoor
open Go.RowKit
set_option linter.unusedSectionVars false
variable [∀ (a b c d : Int), Decidable (Ok4 a b c d)]
variable [∀ (m a b c d : Int), Decidable (In4 m a b c d)]
variable [∀ (xs ys : List Int), Decidable (LOk xs ys)]
variable [∀ (x y : T4), Decidable (Bef x y)]
variable [∀ (ts : List T4), Decidable (Asc ts)]
variable [∀ (ts : List T4), Decidable (AllOk ts)]
variable [∀ (ts : List T4), Decidable (POk ts)]
variable [∀ (r : List Int × List Int × Int), Decidable (Took r)]
variable [∀ (xs ys : List Int) (x : T4), Decidable (Stays xs ys x)]
variable [∀ (x : T4), Decidable (OkT x)]

theorem sameTxs_b (v u : Value) (xs : List T4) (w : World) (hv : RT w v xs) (hu : RT w u xs) :
    Calls Tryd.prog 13 #[v, u] w fun e w' => e = .returned (.bool true) ∧ Below w.heap.size w w' := by
  refine (sameTxs_yes v u xs w hv hu).mono ?_
  rintro e w' ⟨rfl, n, rfl⟩
  exact ⟨rfl, below_drewN' (Below.refl _ _) n⟩
theorem anyRun_len3 (xs ys : List Int) (ts : List T4) : (eachAns xs ys ts).2.2.length = ts.length := by
  have := (anyRun_len xs ys ts ts.length (Nat.le_refl _)).2.2
  rwa [List.take_of_length_le (Nat.le_refl _), anyRun_each] at this

set_option maxHeartbeats 400000 in
set_option maxRecDepth 100000 in
theorem fnPools_big (ao : Option Addr) (n ca : Nat) (w : World) (h : 1048576 < n) (hn : n ≤ 9223372036854775807) :
    Calls Tryd.prog 3 #[.slice ao n ca] w fun e w' => e = .returned (.bool true) ∧ Below w.heap.size w w' := by
  have BG := hide fun w => big_any ao n ca w hn
  rw [decide_eq_true h] at BG
  go_enter Tryd.func3, Tryd.ntmps3
  go_wp2_with fail
  refine (unhide BG _).mono ?_
  rintro _ w1 ⟨rfl, b1⟩
  go_wp2
  go_ret
  exact ⟨rfl, b1⟩

set_option maxHeartbeats 16000000 in
set_option maxRecDepth 100000 in
theorem fnPools_small (ao : Option Addr) (ca : Nat) (zs : List Int) (w : World) (h : Code w ao zs) (ht : Pow w) :
    Calls Tryd.prog 3 #[.slice ao zs.length ca] w fun e w' => e = .returned (.bool true) ∧ Below w.heap.size w w' := by
  have hz := h.1
  have BG := hide fun w => big_any ao zs.length ca w (by omega)
  rw [decide_eq_false (show ¬ 1048576 < zs.length by omega)] at BG
  have CD := hide h
  have PW := hide ht
  have IK := hide fun v ts w h => implPoolOk v ts w h
  have SK := hide fun v ts w h => specPoolOk v ts w h
  have IA2 := hide fun v ts x w h1 h2 h3 => implPoolAdd v ts x w h1 h2 h3
  clear h ht hz
  go_enter Tryd.func3, Tryd.ntmps3
  have Bw : Below w.heap.size w w := Below.refl _ _
  go_wp2_with fail
  refine (unhide BG _).mono ?_
  rintro _ w1 ⟨rfl, bb⟩
  have Bw1 := Bw.trans (bb.mono Bw.size)
  have sw1 := bb.size
  clear Bw
  clear bb
  go_wp2_with fail
  refine (drawPoolAdd _ _ _ _ ((unhide CD).below Bw1)).mono ?_
  rintro _ w2 ⟨vp, ts, a, b, c, d, rfl, htl, op, bb⟩
  have Bw2 := Bw1.trans (bb.mono Bw1.size)
  have sw2 := bb.size
  clear Bw1
  clear bb
  obtain ⟨pa, pc, rfl⟩ := op.form
  obtain ⟨w3, hw3⟩ : ∃ y, w2.alloc (.cells #[.int .i64 a, .int .i64 b, .int .i64 c, .int .i64 d] 26) = y := ⟨_, rfl⟩
  have bb : Below w2.heap.size w2 w3 := hw3 ▸ (Below.refl _ _).alloc (Nat.le_refl _) _
  have X : Loc w3 w2.heap.size #[.int .i64 a, .int .i64 b, .int .i64 c, .int .i64 d] := hw3 ▸ loc_at w2 _ _ rfl
  have Bw3 := Bw2.trans (bb.mono Bw2.size)
  have sw3 := bb.size
  replace op := op.below bb
  clear Bw2
  clear bb
  have SA := hide fun v w h1 h2 => specPoolAdd v ts (a, b, c, d) w h1 h2 (by omega)
  have IA := hide fun v w h1 h2 => implPoolAdd v ts (a, b, c, d) w h1 h2 (by omega)
  have hrl := addAns_len ts (a, b, c, d)
  have HYES := hide fun h => add_yes (ts := ts) (x := (a, b, c, d)) h
  have HTWO := hide fun h => add_twice (ts := ts) (x := (a, b, c, d)) h
  have HNO := hide fun h => add_no (ts := ts) (x := (a, b, c, d)) h
  dsimp only at SA IA
  generalize addAns ts (a, b, c, d) = r at *
  obtain ⟨rl, rb⟩ := r
  dsimp only at hrl HYES HTWO HNO SA IA
  obtain ⟨x0, x1, x2, x3⟩ := X.cells4
  go_wp2_with fail
  clear hw3
  refine (unhide IA _ _ (op.rt (by omega)) op.capped).mono ?_
  rintro _ w4 ⟨ua, rfl, oa, bb⟩
  have Bw4 := Bw3.trans (bb.mono Bw3.size)
  have sw4 := bb.size
  replace X := X.below bb X.lt
  replace op := op.below bb
  clear Bw3
  clear bb
  clear x0 x1 x2 x3
  obtain ⟨x0, x1, x2, x3⟩ := X.cells4
  obtain ⟨aa, ac, rfl⟩ := oa.form
  go_wp2_with fail
  refine (unhide SA _ _ (op.rt (by omega)) op.capped).mono ?_
  rintro _ w5 ⟨ub, rfl, ob, bb⟩
  have Bw5 := Bw4.trans (bb.mono Bw4.size)
  have sw5 := bb.size
  replace X := X.below bb X.lt
  replace op := op.below bb
  replace oa := oa.below bb
  clear Bw4
  clear bb
  clear x0 x1 x2 x3
  obtain ⟨ba, bc, rfl⟩ := ob.form
  go_wp2_with fail
  refine (drawPoolTake _ _ _ _ ((unhide CD).below Bw5)).mono ?_
  rintro _ w6 ⟨vq, tq, u1, u2, xs, ys, rfl, hql, ⟨hxl, hyl⟩, oq, ol, bb⟩
  have Bw6 := Bw5.trans (bb.mono Bw5.size)
  have sw6 := bb.size
  replace X := X.below bb X.lt
  replace op := op.below bb
  replace oa := oa.below bb
  replace ob := ob.below bb
  clear Bw5
  clear bb
  obtain ⟨qa, qc, rfl⟩ := oq.form
  obtain ⟨ha, hc, rfl⟩ := ol.has.form
  obtain ⟨na, nc, rfl⟩ := ol.next.form
  have toq : ∀ j, (Value.slice qa tq.length qc).ownBlock = some j → j < w6.heap.size := fun j hj => (World.ownsRow.lt oq j hj).2
  have tol : ∀ j, (Value.slice ha xs.length hc).ownBlock = some j → j < w6.heap.size := fun j hj => (World.ownsRow.lt ol.has j hj).2
  have ton : ∀ j, (Value.slice na ys.length nc).ownBlock = some j → j < w6.heap.size := fun j hj => (World.ownsRow.lt ol.next j hj).2
  obtain ⟨w7, hw7⟩ : ∃ y, w6.alloc (.cells #[.slice ha xs.length hc, .slice na ys.length nc] 33) = y := ⟨_, rfl⟩
  have bb : Below w6.heap.size w6 w7 := hw7 ▸ (Below.refl _ _).alloc (Nat.le_refl _) _
  have Y : Loc w7 w6.heap.size #[.slice ha xs.length hc, .slice na ys.length nc] := hw7 ▸ loc_at w6 _ _ rfl
  have Bw7 := Bw6.trans (bb.mono Bw6.size)
  have sw7 := bb.size
  replace X := X.below bb X.lt
  replace op := op.below bb
  replace oa := oa.below bb
  replace ob := ob.below bb
  replace oq := oq.below bb
  replace ol := ol.below bb
  clear Bw6
  clear bb
  have IT := hide fun p u v w h1 h2 h3 h4 h5 => implPoolTake p u v tq xs ys w h1 (by omega) h2 h3 h4 h5
  have ID := hide fun p u v w h1 h2 h3 h4 h5 => implPoolDrop p u v tq xs ys w h1 (by omega) h2 h3 h4 h5
  have ST := hide fun p u v w h1 h2 => specPoolTake p u v tq xs ys w h1 (by omega) h2
  have SD := hide fun p u v w h1 h2 => specPoolDrop p u v tq xs ys w h1 (by omega) h2
  have htk := takeAns_len xs ys tq
  have hdk := dropAns_len xs ys tq
  have CO := hide (taken_codes xs ys tq)
  have CL := hide (anyRun_len3 xs ys (takeAns xs ys tq))
  generalize takeAns xs ys tq = tt at *
  generalize dropAns xs ys tq = dd at *
  have IPA := hide fun u v p w h1 h2 => implPayAll u v p xs ys tt w h1 h2 (by omega)
  generalize eachAns xs ys tt = cc at *
  have y0 := Y.cell 0 rfl
  have y1 := Y.cell 1 rfl
  go_wp2_with fail
  clear hw7
  refine (unhide IT _ _ _ _ (oq.rt (by omega)) (ol.ri (by omega) (by omega)) (fun j hj => by have := toq j hj; omega) (fun j hj => by have := tol j hj; omega) (fun j hj => by have := ton j hj; omega)).mono ?_
  rintro _ w8 ⟨ut, rfl, ot, bb⟩
  have Bw8 := Bw7.trans (bb.mono Bw7.size)
  have sw8 := bb.size
  replace X := X.below bb X.lt
  replace Y := Y.below bb Y.lt
  replace op := op.below bb
  replace oa := oa.below bb
  replace ob := ob.below bb
  replace oq := oq.below bb
  replace ol := ol.below bb
  clear Bw7
  clear bb
  obtain ⟨ta, tc, rfl⟩ := ot.form
  clear y0 y1
  have y0 := Y.cell 0 rfl
  have y1 := Y.cell 1 rfl
  go_wp2_with fail
  refine (unhide ID _ _ _ _ (oq.rt (by omega)) (ol.ri (by omega) (by omega)) (fun j hj => by have := toq j hj; omega) (fun j hj => by have := tol j hj; omega) (fun j hj => by have := ton j hj; omega)).mono ?_
  rintro _ w9 ⟨ud, rfl, od, bb⟩
  have Bw9 := Bw8.trans (bb.mono Bw8.size)
  have sw9 := bb.size
  replace X := X.below bb X.lt
  replace Y := Y.below bb Y.lt
  replace op := op.below bb
  replace oa := oa.below bb
  replace ob := ob.below bb
  replace oq := oq.below bb
  replace ot := ot.below bb
  replace ol := ol.below bb
  clear Bw8
  clear bb
  obtain ⟨da, dc, rfl⟩ := od.form
  clear y0 y1
  go_wp2_with fail
  refine (implTxsText _ rl _ (by omega) (oa.rt (by omega)) ((unhide PW).below Bw9)).mono ?_
  rintro _ w10 ⟨rfl, bb⟩
  have Bw10 := Bw9.trans (bb.mono Bw9.size)
  have sw10 := bb.size
  replace X := X.below bb X.lt
  replace Y := Y.below bb Y.lt
  replace op := op.below bb
  replace oa := oa.below bb
  replace ob := ob.below bb
  replace oq := oq.below bb
  replace ot := ot.below bb
  replace od := od.below bb
  replace ol := ol.below bb
  clear Bw9
  clear bb
  go_wp2_with fail
  refine (specTxsText _ rl _ (by omega) (ob.rt (by omega))).mono ?_
  rintro _ w11 ⟨rfl, bb⟩
  have Bw11 := Bw10.trans (bb.mono Bw10.size)
  have sw11 := bb.size
  replace X := X.below bb X.lt
  replace Y := Y.below bb Y.lt
  replace op := op.below bb
  replace oa := oa.below bb
  replace ob := ob.below bb
  replace oq := oq.below bb
  replace ot := ot.below bb
  replace od := od.below bb
  replace ol := ol.below bb
  clear Bw10
  clear bb
  have y0 := Y.cell 0 rfl
  have y1 := Y.cell 1 rfl
  go_wp2_with fail
  refine (unhide ST _ _ _ _ (oq.rt (by omega)) (ol.ri (by omega) (by omega))).mono ?_
  rintro _ w12 ⟨us, rfl, os, bb⟩
  have Bw12 := Bw11.trans (bb.mono Bw11.size)
  have sw12 := bb.size
  replace X := X.below bb X.lt
  replace Y := Y.below bb Y.lt
  replace op := op.below bb
  replace oa := oa.below bb
  replace ob := ob.below bb
  replace oq := oq.below bb
  replace ot := ot.below bb
  replace od := od.below bb
  replace ol := ol.below bb
  clear Bw11
  clear bb
  clear y0 y1
  go_wp2_with fail
  refine (sameTxs_b _ _ tt _ (ot.rt (by omega)) (os.rt (by omega))).mono ?_
  rintro _ w13 ⟨rfl, bb⟩
  have Bw13 := Bw12.trans (bb.mono Bw12.size)
  have sw13 := bb.size
  replace X := X.below bb X.lt
  replace Y := Y.below bb Y.lt
  replace op := op.below bb
  replace oa := oa.below bb
  replace ob := ob.below bb
  replace oq := oq.below bb
  replace ot := ot.below bb
  replace od := od.below bb
  replace os := os.below bb
  replace ol := ol.below bb
  clear Bw12
  clear bb
  clear os
  have y0 := Y.cell 0 rfl
  have y1 := Y.cell 1 rfl
  go_wp2_with fail
  refine (unhide SD _ _ _ _ (oq.rt (by omega)) (ol.ri (by omega) (by omega))).mono ?_
  rintro _ w14 ⟨us, rfl, os, bb⟩
  have Bw14 := Bw13.trans (bb.mono Bw13.size)
  have sw14 := bb.size
  replace X := X.below bb X.lt
  replace Y := Y.below bb Y.lt
  replace op := op.below bb
  replace oa := oa.below bb
  replace ob := ob.below bb
  replace oq := oq.below bb
  replace ot := ot.below bb
  replace od := od.below bb
  replace ol := ol.below bb
  clear Bw13
  clear bb
  clear y0 y1
  go_wp2_with fail
  refine (sameTxs_b _ _ dd _ (od.rt (by omega)) (os.rt (by omega))).mono ?_
  rintro _ w15 ⟨rfl, bb⟩
  have Bw15 := Bw14.trans (bb.mono Bw14.size)
  have sw15 := bb.size
  replace X := X.below bb X.lt
  replace Y := Y.below bb Y.lt
  replace op := op.below bb
  replace oa := oa.below bb
  replace ob := ob.below bb
  replace oq := oq.below bb
  replace ot := ot.below bb
  replace od := od.below bb
  replace os := os.below bb
  replace ol := ol.below bb
  clear Bw14
  clear bb
  clear os
  go_wp2_with fail
  refine (unhide IK _ _ _ (op.rt (by omega))).mono ?_
  rintro _ w16 ⟨rfl, bb⟩
  have Bw16 := Bw15.trans (bb.mono Bw15.size)
  have sw16 := bb.size
  replace X := X.below bb X.lt
  replace Y := Y.below bb Y.lt
  replace op := op.below bb
  replace oa := oa.below bb
  replace ob := ob.below bb
  replace oq := oq.below bb
  replace ot := ot.below bb
  replace od := od.below bb
  replace ol := ol.below bb
  clear Bw15
  clear bb
  go_wp2_with fail
  refine (unhide SK _ _ _ (op.rt (by omega))).mono ?_
  rintro _ w17 ⟨rfl, bb⟩
  have Bw17 := Bw16.trans (bb.mono Bw16.size)
  have sw17 := bb.size
  replace X := X.below bb X.lt
  replace Y := Y.below bb Y.lt
  replace op := op.below bb
  replace oa := oa.below bb
  replace ob := ob.below bb
  replace oq := oq.below bb
  replace ot := ot.below bb
  replace od := od.below bb
  replace ol := ol.below bb
  clear Bw16
  clear bb
  have y0 := Y.cell 0 rfl
  have y1 := Y.cell 1 rfl
  go_wp2_with fail
  clear y0 y1
  refine (unhide IPA _ _ _ _ (ol.ri (by omega) (by omega)) (ot.rt (by omega))).mono ?_
  rintro _ w18 ⟨ue, ve, cs, mid, rfl, ocs, _, _, ole, bb⟩
  have Bw18 := Bw17.trans (bb.mono Bw17.size)
  have sw18 := bb.size
  replace X := X.below bb X.lt
  replace Y := Y.below bb Y.lt
  replace op := op.below bb
  replace oa := oa.below bb
  replace ob := ob.below bb
  replace oq := oq.below bb
  replace ot := ot.below bb
  replace od := od.below bb
  replace ol := ol.below bb
  clear Bw17
  clear bb
  obtain ⟨ca2, cc2, rfl⟩ := ocs.form
  obtain ⟨ea, ec, rfl⟩ := ole.has.form
  obtain ⟨fa, fc, rfl⟩ := ole.next.form
  obtain ⟨w19, hw19⟩ : ∃ y, w18.alloc (.cells #[.slice ea cc.1.length ec, .slice fa cc.2.1.length fc] 33) = y := ⟨_, rfl⟩
  have bb : Below w18.heap.size w18 w19 := hw19 ▸ (Below.refl _ _).alloc (Nat.le_refl _) _
  have Bw19 := Bw18.trans (bb.mono Bw18.size)
  have sw19 := bb.size
  replace X := X.below bb X.lt
  replace Y := Y.below bb Y.lt
  replace op := op.below bb
  replace oa := oa.below bb
  replace ob := ob.below bb
  replace oq := oq.below bb
  replace ot := ot.below bb
  replace od := od.below bb
  replace ocs := ocs.below bb
  replace ol := ol.below bb
  clear Bw18
  clear bb
  have hcl : cc.2.2.length = tt.length := unhide CL
  have rc := hide (ocs.ri (by omega))
  obtain ⟨m, hm⟩ : ∃ m, cc.2.2.length = m := ⟨_, rfl⟩
  have Hm := hide hm
  rw [hm] at hcl rc ⊢
  have FIN := hide (And.intro op (And.intro oa (And.intro X Bw19)))
  clear hm ocs ole op oa ob oq ol ot od X Y
  go_wp2
  clear hw19
  go_loopw [15] (fun i wr => ∃ k : Nat, k ≤ m ∧ i = .int .i64 k ∧ wr = w19) (fun i _ => m - (intOf i).toNat)
  case atStart => exact ⟨0, Nat.zero_le _, rfl, rfl⟩
  case round =>
    obtain ⟨k, hk, rfl, rfl⟩ := hrel
    by_cases hlt : k < m
    · obtain ⟨_, cao, ccap, e, hcells⟩ := unhide rc
      rw [unhide Hm] at e
      cases e
      rcases hcells with e0 | ⟨gb, off, rfl, hcells⟩
      · have := unhide Hm; rw [e0] at this; simp at this; omega
      have c0 := hcells k (by rw [unhide Hm]; exact hlt)
      have hc := unhide CO k (by rw [unhide Hm]; exact hlt)
      generalize cc.2.2.getD k 0 = cv at *
      clear hcells
      rcases hc with rfl | rfl
      · go_wp2
        go_roundw
        case rel => exact ⟨k + 1, by omega, by go_num, trivial⟩
        case measure => simp [intOf]; omega
      · go_wp2
        go_roundw
        case rel => exact ⟨k + 1, by omega, by go_num, trivial⟩
        case measure => simp [intOf]; omega
    · obtain ⟨op, oa, X, B0⟩ := unhide FIN
      cases rb with
      | false =>
        have e := unhide HNO rfl
        subst e
        clear op oa X
        go_wp2
        go_ret
        exact ⟨by simp, B0⟩
      | true =>
        obtain ⟨y1, y2, _⟩ := unhide HYES rfl
        have tw := unhide HTWO rfl
        have AD := hide fun v w h1 h2 => unhide IA2 v rl (a, b, c, d) w h1 h2 (by omega)
        dsimp only at AD
        rw [tw] at AD
        have PO := hide fun v w h => unhide IK v rl w h
        rw [decide_eq_true y1] at PO
        obtain ⟨x0, x1, x2, x3⟩ := X.cells4
        have hl1 : ((rl.length : Int) == (ts.length : Int) + 1) = true := by simp; omega
        have hl2 : decide ((tt.length : Int) ≤ 2) = true := by simp; omega
        have hl3 : decide ((dd.length : Int) ≤ (tq.length : Int)) = true := by simp; omega
        have oa := hide oa
        clear y1 tw op
        replace y2 := hide y2
        go_wp2_with fail
        refine (unhide AD _ _ ((unhide oa).rt (by omega)) (unhide oa).capped).mono ?_
        rintro _ wx ⟨uu, rfl, _, bx⟩
        have Bx := B0.trans (bx.mono B0.size)
        have rx := hide (((unhide oa).below bx).rt (by omega))
        go_wp2_with fail
        refine (unhide PO _ _ (unhide rx)).mono ?_
        rintro _ wy ⟨rfl, by_⟩
        have By := Bx.trans (by_.mono Bx.size)
        go_wp2
        go_ret
        exact ⟨rfl, By⟩

theorem fnPools_walk (ao : Option Addr) (ca : Nat) (zs : List Int) (w : World) (hn : zs.length ≤ maxLen) (h1 : zs = [] ∨ ∃ b off, ao = some ⟨b, off, none⟩ ∧ ∀ k, k < zs.length → w.cell? ⟨b, off + k, none⟩ = some (.int .u8 (zs.getD k 0))) (h2 : ∀ k, k < zs.length → 0 ≤ zs.getD k 0 ∧ zs.getD k 0 ≤ 255) (ht : Pow w) :
    Calls Tryd.prog 3 #[.slice ao zs.length ca] w fun e w' => e = .returned (.bool true) ∧ Below w.heap.size w w' := by
  unfold maxLen at hn
  by_cases h : zs.length ≤ 1048576
  · exact fnPools_small ao ca zs w ⟨h, h1, h2⟩ ht
  · exact fnPools_big ao zs.length ca w (by omega) (by omega)
end Go.Proofs.YthdehhenkgkkmaaDoor
