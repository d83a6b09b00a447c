/- The walk of laws.FnBlocks. -/
import Derived.Test.YtggmgfkmbgcooaaGreatDoorDrawBlksQ
import Derived.Test.YtggmgfkmbgcooaaGreatDoorBlockSamesQ
import Derived.Test.YtggmgfkmbgcooaaGreatDoorBunM
/- The walk of laws.FnBlocks. -/
namespace Go.Proofs.YtggmgfkmbgcooaaGreatDoor
open Go.RowKit
set_option linter.unusedSectionVars false
variable [∀ (a b c d : Int), Decidable (Ok4 a b c d)]
variable [∀ (a b c d : Nat), Decidable (okN a b c d)]
variable [∀ (last : Int) (s : St), Decidable (GoodSt last s)]
variable [∀ (x : T4), Decidable (OkT x)]
variable [∀ (n : Int) (s : List Int), Decidable (OkL n s)]
variable [∀ (n f : Int), Decidable (COk n f)]
variable [∀ (ts : List T4), Decidable (AllOk ts)]

theorem bsam_self (m : ByteArray) (n : Int) (s : ByteArray) (xs : List Int) : bsamB m m n n s s xs xs = true := by simp [bsamB]
theorem wf64 {xs : List Int} (h : WfL xs) : In64 xs := fun x hx => bounds_i64 (h x hx)
theorem big_no8 (ao : Option Addr) (n ca : Nat) (w : World) (h : n ≤ 1048576) :
    Calls Tryz.prog 6 #[.slice ao n ca] w fun e w' => e = .returned (.bool false) ∧ w' = w := by
  have hd : decide ((1048576 : Int) < (n : Int)) = false := by simp; omega
  go_enter Tryz.func6, Tryz.ntmps6
  go_wp2
  go_ret
  exact ⟨rfl, rfl⟩
theorem big_yes8 (ao : Option Addr) (n ca : Nat) (w : World) (h : 1048576 < n) :
    Calls Tryz.prog 6 #[.slice ao n ca] w fun e w' => e = .returned (.bool true) ∧ w' = w := by
  have hd : decide ((1048576 : Int) < (n : Int)) = true := by simp; omega
  go_enter Tryz.func6, Tryz.ntmps6
  go_wp2
  go_ret
  exact ⟨rfl, rfl⟩

set_option maxHeartbeats 800000 in
set_option maxRecDepth 100000 in
theorem fnBlocks_big (ao : Option Addr) (n ca : Nat) (w : World) (h : 1048576 < n) :
    Calls Tryz.prog 3 #[.slice ao n ca] w fun e w' => e = .returned (.bool true) ∧ Below w.heap.size w w' := by
  have BG := hide fun w => big_yes8 ao n ca w h
  go_enter Tryz.func3, Tryz.ntmps3
  go_wp2_with fail
  refine (unhide BG _).mono ?_
  rintro e w1 ⟨rfl, rfl⟩
  go_wp2
  go_ret
  exact ⟨rfl, Below.refl _ _⟩

set_option maxHeartbeats 32000000 in
set_option maxRecDepth 100000 in
theorem fnBlocks_small (ao : Option Addr) (ca : Nat) (zs : List Int) (w : World) (h : DCode w ao zs) (hE : Env w) :
    Calls Tryz.prog 3 #[.slice ao zs.length ca] w fun e w' => e = .returned (.bool true) ∧ Below w.heap.size w w' := by
  have BG := hide fun w => big_no8 ao zs.length ca w h.len
  have DR := hide fun w h => drawBlockOk ao ca zs w h
  have DN := hide fun w h => drawBlockNew ao ca zs w h
  have DS := hide fun w h => drawBlockSame ao ca zs w h
  have HC := hide h
  have HE := hide hE
  clear h hE
  have Bw := Below.refl w.heap.size w
  go_enter Tryz.func3, Tryz.ntmps3
  go_wp2_with fail
  refine (unhide BG _).mono ?_
  rintro _ w9 ⟨rfl, e9⟩
  rw [e9]
  clear e9 BG
  go_wp2_with fail
  refine (unhide DR _ ((unhide HC).below Bw (Nat.le_refl _))).mono ?_
  rintro _ w1 ⟨n, f, m, v, s, uB, xs, rfl, hm, hv, hs, hl, hw, oB, bb⟩
  have Bw1 := Bw.trans (bb.mono Bw.size)
  have sw1 := bb.size
  clear Bw
  clear bb
  have toB := World.ownsRow.lt oB
  obtain ⟨aoB, koB, rfl⟩ := oB.form
  go_wp2_with fail
  clear DR
  obtain ⟨w2, hw2⟩ : ∃ y, (w1.alloc (.cells #[.int .i64 n, .int .i64 f] 25)).alloc (.cells #[.string m, .int .i64 v, .string s, .slice aoB xs.length koB] 30) = y := ⟨_, rfl⟩
  have bb : Below w1.heap.size w1 w2 := hw2 ▸ qalloc2 _ _ _
  have LC : Loc w2 w1.heap.size #[.int .i64 n, .int .i64 f] := hw2 ▸ (loc_at w1 _ _ rfl).alloc _
  have LB : Loc w2 (w1.heap.size + 1) #[.string m, .int .i64 v, .string s, .slice aoB xs.length koB] := hw2 ▸ loc_at (w1.alloc _) _ _ (by simp)
  have zw2 : w1.heap.size + 1 + 1 ≤ w2.heap.size := by rw [← hw2]; simp
  rw [hw2]
  clear hw2
  have Bw2 := Bw1.trans (bb.mono Bw1.size)
  have sw2 := bb.size
  replace oB := oB.below bb
  clear Bw1
  clear bb
  refine (unhide DN _ ((unhide HC).below Bw2 (Nat.le_refl _))).mono ?_
  rintro _ w3 ⟨n', f', v', s', uQ, ys, view, lv, ts, rfl, hv', hs', hl', hw', hview, hts, rL, oQ, bb⟩
  have Bw3 := Bw2.trans (bb.mono Bw2.size)
  have sw3 := bb.size
  replace LC := LC.below bb LC.lt
  replace LB := LB.below bb LB.lt
  replace oB := oB.below bb
  clear Bw2
  clear bb DN
  have toQ := World.ownsRow.lt oQ
  obtain ⟨aoQ, koQ, rfl⟩ := oQ.form
  go_upto_region 5 with fail
  obtain ⟨w4, hw4⟩ : ∃ y, (w3.alloc (.cells #[.int .i64 n', .int .i64 f'] 25)).alloc (.cells #[.int .i64 v', .string s', .slice aoQ ys.length koQ] 28) = y := ⟨_, rfl⟩
  have bb : Below w3.heap.size w3 w4 := hw4 ▸ qalloc2 _ _ _
  have LD : Loc w4 w3.heap.size #[.int .i64 n', .int .i64 f'] := hw4 ▸ (loc_at w3 _ _ rfl).alloc _
  have LQ : Loc w4 (w3.heap.size + 1) #[.int .i64 v', .string s', .slice aoQ ys.length koQ] := hw4 ▸ loc_at (w3.alloc _) _ _ (by simp)
  have zw4 : w3.heap.size + 1 + 1 ≤ w4.heap.size := by rw [← hw4]; simp
  rw [hw4]
  clear hw4
  have Bw4 := Bw3.trans (bb.mono Bw3.size)
  have sw4 := bb.size
  replace LC := LC.below bb LC.lt
  replace LB := LB.below bb LB.lt
  replace oB := oB.below bb
  replace oQ := oQ.below bb
  replace rL := rL.below bb
  clear Bw3
  clear bb
  have IN := hide fun a k w e h h' => implBlockNew n' f' v' s' a k ys view lv ts w (by omega) (by omega) (by omega) (by omega) h e h'
  have SN := hide fun a k w h h' => specBlockNew n' f' v' s' a k ys view lv ts w (by omega) (by omega) (by omega) (by omega) (by omega) h h'
  have HN : Hid (bnewB n' f' v' s' ys view ts = true → bokB n' f' (if bnewB n' f' v' s' ys view ts then nameAns s' view ts else ⟨#[]⟩) (if bnewB n' f' v' s' ys view ts then v' else 0) (if bnewB n' f' v' s' ys view ts then s' else ⟨#[]⟩) (if bnewB n' f' v' s' ys view ts then ys else []) = true ∧ viewAns (if bnewB n' f' v' s' ys view ts then nameAns s' view ts else ⟨#[]⟩) = view ∧ upAns (if bnewB n' f' v' s' ys view ts then nameAns s' view ts else ⟨#[]⟩) = s') := hide fun h => by simp only [h, if_true]; exact bnew_has h
  have hnl := nameAns_len s' view ts
  have hnil : (⟨#[]⟩ : ByteArray).size = 0 := rfl
  have hm1 : (if bnewB n' f' v' s' ys view ts then nameAns s' view ts else ⟨#[]⟩).size ≤ 8001 := by split <;> omega
  have hn1 : -1 ≤ (if bnewB n' f' v' s' ys view ts then v' else 0) ∧ (if bnewB n' f' v' s' ys view ts then v' else 0) ≤ 61 := by split <;> omega
  have hs1 : (if bnewB n' f' v' s' ys view ts then s' else ⟨#[]⟩).size ≤ 8001 := by split <;> omega
  have hx1 : (if bnewB n' f' v' s' ys view ts then ys else []).length ≤ 9 := by split <;> first | omega | simp
  have hw1 : Hid (WfL (if bnewB n' f' v' s' ys view ts then ys else [])) := by split <;> first | exact hw' | exact hide wf_nil
  generalize (if bnewB n' f' v' s' ys view ts then nameAns s' view ts else ⟨#[]⟩) = m1 at *
  generalize (if bnewB n' f' v' s' ys view ts then v' else 0) = n1 at *
  generalize (if bnewB n' f' v' s' ys view ts then s' else ⟨#[]⟩) = s1 at *
  generalize (if bnewB n' f' v' s' ys view ts then ys else []) = x1 at *
  generalize bnewB n' f' v' s' ys view ts = q1 at *
  clear hnl hnil hw'
  have cLD0 := LD.cell 0 rfl
  have cLD1 := LD.cell 1 rfl
  have cLQ0 := LQ.cell 0 rfl
  have cLQ1 := LQ.cell 1 rfl
  have cLQ2 := LQ.cell 2 rfl
  go_wp2_with fail
  refine (unhide IN _ _ _ ((unhide HE).below Bw4) rL (oQ.ri (by omega))).mono ?_
  rintro _ w5 ⟨uN, rfl, oN, bb⟩
  clear cLD0 cLD1 cLQ0 cLQ1 cLQ2
  have Bw5 := Bw4.trans (bb.mono Bw4.size)
  have sw5 := bb.size
  replace LC := LC.below bb LC.lt
  replace LB := LB.below bb LB.lt
  replace LD := LD.below bb LD.lt
  replace LQ := LQ.below bb LQ.lt
  replace oB := oB.below bb
  replace oQ := oQ.below bb
  replace rL := rL.below bb
  clear Bw4
  clear bb
  clear IN
  have toN := World.ownsRow.lt oN
  obtain ⟨aoN, koN, rfl⟩ := oN.form
  go_upto_region 6 with fail
  obtain ⟨w6, hw6⟩ : ∃ y, w5.alloc (.cells #[.string m1, .int .i64 n1, .string s1, .slice aoN x1.length koN] 30) = y := ⟨_, rfl⟩
  have bb : Below w5.heap.size w5 w6 := hw6 ▸ qalloc _ _
  have LN : Loc w6 w5.heap.size #[.string m1, .int .i64 n1, .string s1, .slice aoN x1.length koN] := hw6 ▸ loc_at w5 _ _ rfl
  have zw6 : w5.heap.size + 1 ≤ w6.heap.size := by rw [← hw6]; simp
  rw [hw6]
  clear hw6
  have Bw6 := Bw5.trans (bb.mono Bw5.size)
  have sw6 := bb.size
  replace LC := LC.below bb LC.lt
  replace LB := LB.below bb LB.lt
  replace LD := LD.below bb LD.lt
  replace LQ := LQ.below bb LQ.lt
  replace oB := oB.below bb
  replace oQ := oQ.below bb
  replace rL := rL.below bb
  replace oN := oN.below bb
  clear Bw5
  clear bb
  have cLD0 := LD.cell 0 rfl
  have cLD1 := LD.cell 1 rfl
  have cLQ0 := LQ.cell 0 rfl
  have cLQ1 := LQ.cell 1 rfl
  have cLQ2 := LQ.cell 2 rfl
  go_wp2_with fail
  refine (unhide SN _ _ _ rL (oQ.ri (by omega))).mono ?_
  rintro _ w7 ⟨uM, rfl, oM, bb⟩
  clear cLD0 cLD1 cLQ0 cLQ1 cLQ2
  have Bw7 := Bw6.trans (bb.mono Bw6.size)
  have sw7 := bb.size
  replace LC := LC.below bb LC.lt
  replace LB := LB.below bb LB.lt
  replace LD := LD.below bb LD.lt
  replace LQ := LQ.below bb LQ.lt
  replace LN := LN.below bb LN.lt
  replace oB := oB.below bb
  replace oQ := oQ.below bb
  replace rL := rL.below bb
  replace oN := oN.below bb
  clear Bw6
  clear bb
  clear SN
  have toM := World.ownsRow.lt oM
  obtain ⟨aoM, koM, rfl⟩ := oM.form
  go_upto_region 7 with fail
  obtain ⟨w8, hw8⟩ : ∃ y, w7.alloc (.cells #[.string m1, .int .i64 n1, .string s1, .slice aoM x1.length koM] 30) = y := ⟨_, rfl⟩
  have bb : Below w7.heap.size w7 w8 := hw8 ▸ qalloc _ _
  have LM : Loc w8 w7.heap.size #[.string m1, .int .i64 n1, .string s1, .slice aoM x1.length koM] := hw8 ▸ loc_at w7 _ _ rfl
  have zw8 : w7.heap.size + 1 ≤ w8.heap.size := by rw [← hw8]; simp
  rw [hw8]
  clear hw8
  have Bw8 := Bw7.trans (bb.mono Bw7.size)
  have sw8 := bb.size
  replace LC := LC.below bb LC.lt
  replace LB := LB.below bb LB.lt
  replace LD := LD.below bb LD.lt
  replace LQ := LQ.below bb LQ.lt
  replace LN := LN.below bb LN.lt
  replace oB := oB.below bb
  replace oQ := oQ.below bb
  replace rL := rL.below bb
  replace oN := oN.below bb
  replace oM := oM.below bb
  clear Bw7
  clear bb
  go_wp2_with fail
  refine (unhide DS _ ((unhide HC).below Bw8 (Nat.le_refl _))).mono ?_
  rintro _ w9 ⟨ma, va, sa, uA, xA, mb, vb, sb, uY, xY, rfl, hma, hva, hsa, hla, hwa, hmb, hvb, hsb, hlb, hwb, oA, oY, bb⟩
  have Bw9 := Bw8.trans (bb.mono Bw8.size)
  have sw9 := bb.size
  replace LC := LC.below bb LC.lt
  replace LB := LB.below bb LB.lt
  replace LD := LD.below bb LD.lt
  replace LQ := LQ.below bb LQ.lt
  replace LN := LN.below bb LN.lt
  replace LM := LM.below bb LM.lt
  replace oB := oB.below bb
  replace oQ := oQ.below bb
  replace rL := rL.below bb
  replace oN := oN.below bb
  replace oM := oM.below bb
  clear Bw8
  clear bb DS HC
  have toA := World.ownsRow.lt oA
  obtain ⟨aoA, koA, rfl⟩ := oA.form
  have toY := World.ownsRow.lt oY
  obtain ⟨aoY, koY, rfl⟩ := oY.form
  clear rL
  go_upto_region 8 with fail
  obtain ⟨w10, hw10⟩ : ∃ y, (w9.alloc (.cells #[.string ma, .int .i64 va, .string sa, .slice aoA xA.length koA] 30)).alloc (.cells #[.string mb, .int .i64 vb, .string sb, .slice aoY xY.length koY] 30) = y := ⟨_, rfl⟩
  have bb : Below w9.heap.size w9 w10 := hw10 ▸ qalloc2 _ _ _
  have LX : Loc w10 w9.heap.size #[.string ma, .int .i64 va, .string sa, .slice aoA xA.length koA] := hw10 ▸ (loc_at w9 _ _ rfl).alloc _
  have LY : Loc w10 (w9.heap.size + 1) #[.string mb, .int .i64 vb, .string sb, .slice aoY xY.length koY] := hw10 ▸ loc_at (w9.alloc _) _ _ (by simp)
  have zw10 : w9.heap.size + 1 + 1 ≤ w10.heap.size := by rw [← hw10]; simp
  rw [hw10]
  clear hw10
  have Bw10 := Bw9.trans (bb.mono Bw9.size)
  have sw10 := bb.size
  replace LC := LC.below bb LC.lt
  replace LB := LB.below bb LB.lt
  replace LD := LD.below bb LD.lt
  replace LQ := LQ.below bb LQ.lt
  replace LN := LN.below bb LN.lt
  replace LM := LM.below bb LM.lt
  replace oB := oB.below bb
  replace oQ := oQ.below bb
  replace oN := oN.below bb
  replace oM := oM.below bb
  replace oA := oA.below bb
  replace oY := oY.below bb
  clear Bw9
  clear bb
  have IB := hide fun a k w e h => implBlockOk n f m v s a k xs w (by omega) (by omega) e h
  have SB := hide fun a k w h => specBlockOk n f m v s a k xs w (by omega) (by omega) h
  have HB : Hid (bokB n f m v s xs = true → v < viewAns m ∧ extB m s = true ∧ heightAns m = heightAns s + 1) := hide block_above
  have VM := hide fun w e => implViewOf m w (by omega) e
  have XM := hide fun w e => implExtends m s w (by omega) (by omega) e
  have HM := hide fun w e => implHeight m w (by omega) e
  have HS := hide fun w e => implHeight s w (by omega) e
  have fS := height_view (s := s)
  have f30 := fS.2.1
  have flo : -1 ≤ heightAns s := by unfold heightAns; split <;> omega
  clear fS
  generalize bokB n f m v s xs = qb at *
  generalize viewAns m = vm at *
  generalize extB m s = xm at *
  generalize heightAns m = hM at *
  generalize heightAns s = hS at *
  have IS : Hid (∀ a b k j w, Pow w → RI w (.slice a x1.length k) x1 → RI w (.slice b x1.length j) x1 → Calls Tryz.prog 14 #[bv m1 n1 s1 (.slice a x1.length k), bv m1 n1 s1 (.slice b x1.length j)] w fun e w' => e = .returned (.bool true) ∧ Below w.heap.size w w') := hide fun a b k j w p h h' => by have := implBlockSame m1 m1 n1 n1 s1 s1 a b k j x1 x1 w (by omega) (by omega) (by omega) (by omega) (wf64 (unhide hw1)) (wf64 (unhide hw1)) p h h'; rwa [bsam_self] at this
  have IT := hide fun a b k j w p h h' => implBlockSame ma mb va vb sa sb a b k j xA xY w (by omega) (by omega) (by omega) (by omega) (wf64 (unhide hwa)) (wf64 (unhide hwb)) p h h'
  have ST := hide fun a b k j w h h' => specBlockSame ma mb va vb sa sb a b k j xA xY w h h'
  generalize bsamB ma mb va vb sa sb xA xY = qs at *
  have hqb : (qb != qb) = false := by simp
  have hq1 : (q1 != q1) = false := by simp
  have hqs : (qs != qs) = false := by simp
  have RB := hide fun w' (hb' : Below w10.heap.size w10 w') => (oB.below hb').ri (by omega)
  have RN := hide fun w' (hb' : Below w10.heap.size w10 w') => (oN.below hb').ri (by omega)
  have RM := hide fun w' (hb' : Below w10.heap.size w10 w') => (oM.below hb').ri (by omega)
  have RA := hide fun w' (hb' : Below w10.heap.size w10 w') => (oA.below hb').ri (by omega)
  have RY := hide fun w' (hb' : Below w10.heap.size w10 w') => (oY.below hb').ri (by omega)
  have K : Hid (∀ w', Below w10.heap.size w10 w' → (fun w' => Below w10.heap.size w10 w' ∧ (w'.cell? ⟨w1.heap.size, 0, none⟩ = some (.int .i64 n) ∧ w'.cell? ⟨w1.heap.size, 1, none⟩ = some (.int .i64 f)) ∧ (w'.cell? ⟨w1.heap.size + 1, 0, none⟩ = some (.string m) ∧ w'.cell? ⟨w1.heap.size + 1, 1, none⟩ = some (.int .i64 v) ∧ w'.cell? ⟨w1.heap.size + 1, 2, none⟩ = some (.string s) ∧ w'.cell? ⟨w1.heap.size + 1, 3, none⟩ = some (.slice aoB xs.length koB)) ∧ (w'.cell? ⟨w5.heap.size, 0, none⟩ = some (.string m1) ∧ w'.cell? ⟨w5.heap.size, 1, none⟩ = some (.int .i64 n1) ∧ w'.cell? ⟨w5.heap.size, 2, none⟩ = some (.string s1) ∧ w'.cell? ⟨w5.heap.size, 3, none⟩ = some (.slice aoN x1.length koN)) ∧ (w'.cell? ⟨w7.heap.size, 0, none⟩ = some (.string m1) ∧ w'.cell? ⟨w7.heap.size, 1, none⟩ = some (.int .i64 n1) ∧ w'.cell? ⟨w7.heap.size, 2, none⟩ = some (.string s1) ∧ w'.cell? ⟨w7.heap.size, 3, none⟩ = some (.slice aoM x1.length koM)) ∧ (w'.cell? ⟨w9.heap.size, 0, none⟩ = some (.string ma) ∧ w'.cell? ⟨w9.heap.size, 1, none⟩ = some (.int .i64 va) ∧ w'.cell? ⟨w9.heap.size, 2, none⟩ = some (.string sa) ∧ w'.cell? ⟨w9.heap.size, 3, none⟩ = some (.slice aoA xA.length koA)) ∧ (w'.cell? ⟨w9.heap.size + 1, 0, none⟩ = some (.string mb) ∧ w'.cell? ⟨w9.heap.size + 1, 1, none⟩ = some (.int .i64 vb) ∧ w'.cell? ⟨w9.heap.size + 1, 2, none⟩ = some (.string sb) ∧ w'.cell? ⟨w9.heap.size + 1, 3, none⟩ = some (.slice aoY xY.length koY))) w') := hide fun w' hb' => ⟨hb', ⟨(LC.below hb' LC.lt).cell 0 rfl, (LC.below hb' LC.lt).cell 1 rfl⟩, ⟨(LB.below hb' LB.lt).cell 0 rfl, (LB.below hb' LB.lt).cell 1 rfl, (LB.below hb' LB.lt).cell 2 rfl, (LB.below hb' LB.lt).cell 3 rfl⟩, ⟨(LN.below hb' LN.lt).cell 0 rfl, (LN.below hb' LN.lt).cell 1 rfl, (LN.below hb' LN.lt).cell 2 rfl, (LN.below hb' LN.lt).cell 3 rfl⟩, ⟨(LM.below hb' LM.lt).cell 0 rfl, (LM.below hb' LM.lt).cell 1 rfl, (LM.below hb' LM.lt).cell 2 rfl, (LM.below hb' LM.lt).cell 3 rfl⟩, ⟨(LX.below hb' LX.lt).cell 0 rfl, (LX.below hb' LX.lt).cell 1 rfl, (LX.below hb' LX.lt).cell 2 rfl, (LX.below hb' LX.lt).cell 3 rfl⟩, ⟨(LY.below hb' LY.lt).cell 0 rfl, (LY.below hb' LY.lt).cell 1 rfl, (LY.below hb' LY.lt).cell 2 rfl, (LY.below hb' LY.lt).cell 3 rfl⟩⟩
  have bA : Below w10.heap.size w10 w10.drew := Below.drew (Below.refl _ _)
  refine wp_region_noPanic ?_
  refine wp_region_held_drew (S := fun w' => Below w10.heap.size w10 w' ∧ (w'.cell? ⟨w1.heap.size, 0, none⟩ = some (.int .i64 n) ∧ w'.cell? ⟨w1.heap.size, 1, none⟩ = some (.int .i64 f)) ∧ (w'.cell? ⟨w1.heap.size + 1, 0, none⟩ = some (.string m) ∧ w'.cell? ⟨w1.heap.size + 1, 1, none⟩ = some (.int .i64 v) ∧ w'.cell? ⟨w1.heap.size + 1, 2, none⟩ = some (.string s) ∧ w'.cell? ⟨w1.heap.size + 1, 3, none⟩ = some (.slice aoB xs.length koB)) ∧ (w'.cell? ⟨w5.heap.size, 0, none⟩ = some (.string m1) ∧ w'.cell? ⟨w5.heap.size, 1, none⟩ = some (.int .i64 n1) ∧ w'.cell? ⟨w5.heap.size, 2, none⟩ = some (.string s1) ∧ w'.cell? ⟨w5.heap.size, 3, none⟩ = some (.slice aoN x1.length koN)) ∧ (w'.cell? ⟨w7.heap.size, 0, none⟩ = some (.string m1) ∧ w'.cell? ⟨w7.heap.size, 1, none⟩ = some (.int .i64 n1) ∧ w'.cell? ⟨w7.heap.size, 2, none⟩ = some (.string s1) ∧ w'.cell? ⟨w7.heap.size, 3, none⟩ = some (.slice aoM x1.length koM)) ∧ (w'.cell? ⟨w9.heap.size, 0, none⟩ = some (.string ma) ∧ w'.cell? ⟨w9.heap.size, 1, none⟩ = some (.int .i64 va) ∧ w'.cell? ⟨w9.heap.size, 2, none⟩ = some (.string sa) ∧ w'.cell? ⟨w9.heap.size, 3, none⟩ = some (.slice aoA xA.length koA)) ∧ (w'.cell? ⟨w9.heap.size + 1, 0, none⟩ = some (.string mb) ∧ w'.cell? ⟨w9.heap.size + 1, 1, none⟩ = some (.int .i64 vb) ∧ w'.cell? ⟨w9.heap.size + 1, 2, none⟩ = some (.string sb) ∧ w'.cell? ⟨w9.heap.size + 1, 3, none⟩ = some (.slice aoY xY.length koY))) (by kernel_rfl) (unhide K _ bA) (fun hHeld => ?_)
  refine take_at (i := 0) (d := 50) (v := ?_) rfl rfl (by kernel_rfl) (by kernel_rfl) (by kernel_rfl) (fun _ _ _ h => h) (Or.inl ⟨by rfl, ?_⟩) (by assumption) ?_
  rotate_left
  · intro w hSw
    try dsimp only at hSw
    go_simp
    try with_reducible rfl
  simp only [Act.put, List.setIfInBounds_toArray, List.set_cons_zero, List.set_cons_succ]
  refine take_at (i := 1) (d := 51) (v := ?_) rfl rfl (by kernel_rfl) (by kernel_rfl) (by kernel_rfl) (fun _ _ _ h => h) (Or.inl ⟨by rfl, ?_⟩) (by assumption) ?_
  rotate_left
  · intro w hSw
    try dsimp only at hSw
    go_simp
    try with_reducible rfl
  simp only [Act.put, List.setIfInBounds_toArray, List.set_cons_zero, List.set_cons_succ]
  refine take_at (i := 3) (d := 53) (v := ?_) rfl rfl (by kernel_rfl) (by kernel_rfl) (by kernel_rfl) (fun _ _ _ h => h) (Or.inl ⟨by rfl, ?_⟩) (by assumption) ?_
  rotate_left
  · intro w hSw
    try dsimp only at hSw
    go_simp
    try with_reducible rfl
  simp only [Act.put, List.setIfInBounds_toArray, List.set_cons_zero, List.set_cons_succ]
  refine take_at (i := 4) (d := 54) (v := ?_) rfl rfl (by kernel_rfl) (by kernel_rfl) (by kernel_rfl) (fun _ _ _ h => h) (Or.inl ⟨by rfl, ?_⟩) (by assumption) ?_
  rotate_left
  · intro w hSw
    try dsimp only at hSw
    go_simp
    try with_reducible rfl
  simp only [Act.put, List.setIfInBounds_toArray, List.set_cons_zero, List.set_cons_succ]
  refine ready_at (i := 2) rfl (by kernel_rfl) (fun KK hKK => ?_)
  go_simp
  have hgo := bA
  refine (unhide IB _ _ _ ((unhide HE).below (Bw10.trans (hgo.mono Bw10.size))) (unhide RB _ hgo)).mono ?_
  rintro e wz8_1 ⟨rfl, bb⟩
  have bz1 : Below w10.heap.size w10 wz8_1 := bA.trans (bb.mono bA.size)
  clear bA hgo bb
  clear hHeld
  refine hKK.out _ _ (unhide K _ bz1) (fun hHeld => ?_)
  clear hKK KK
  refine ready_at (i := 5) rfl (by kernel_rfl) (fun KK hKK => ?_)
  go_simp
  have hgo := bz1
  refine (unhide SB _ _ _ (unhide RB _ hgo)).mono ?_
  rintro e wz8_2 ⟨rfl, bb⟩
  have bz2 : Below w10.heap.size w10 wz8_2 := bz1.trans (bb.mono bz1.size)
  clear bz1 hgo bb
  clear hHeld
  refine hKK.out _ _ (unhide K _ bz2) (fun hHeld => ?_)
  clear hKK KK
  refine take_at (i := 6) (d := 56) (v := ?_) rfl rfl (by kernel_rfl) (by kernel_rfl) (by kernel_rfl) (fun _ _ _ h => h) (Or.inl ⟨by rfl, ?_⟩) (by assumption) ?_
  rotate_left
  · intro w hSw
    try dsimp only at hSw
    go_simp
    try with_reducible rfl
  simp only [Act.put, List.setIfInBounds_toArray, List.set_cons_zero, List.set_cons_succ]
  refine take_at (i := 7) (d := 57) (v := ?_) rfl rfl (by kernel_rfl) (by kernel_rfl) (by kernel_rfl) (fun _ _ _ h => h) (Or.inl ⟨by rfl, ?_⟩) (by assumption) ?_
  rotate_left
  · intro w hSw
    try dsimp only at hSw
    go_simp
    try with_reducible rfl
  simp only [Act.put, List.setIfInBounds_toArray, List.set_cons_zero, List.set_cons_succ]
  refine take_at (i := 8) (d := 58) (v := ?_) rfl rfl (by kernel_rfl) (by kernel_rfl) (by kernel_rfl) (fun _ _ _ h => h) (Or.inl ⟨by rfl, ?_⟩) (by assumption) ?_
  rotate_left
  · intro w hSw
    try dsimp only at hSw
    go_simp
    try with_reducible rfl
  simp only [Act.put, List.setIfInBounds_toArray, List.set_cons_zero, List.set_cons_succ]
  refine take_at (i := 9) (d := 59) (v := ?_) rfl rfl (by kernel_rfl) (by kernel_rfl) (by kernel_rfl) (fun _ _ _ h => h) (Or.inl ⟨by rfl, ?_⟩) (by assumption) ?_
  rotate_left
  · intro w hSw
    try dsimp only at hSw
    go_simp
    try with_reducible rfl
  simp only [Act.put, List.setIfInBounds_toArray, List.set_cons_zero, List.set_cons_succ]
  refine take_at (i := 10) (d := 60) (v := ?_) rfl rfl (by kernel_rfl) (by kernel_rfl) (by kernel_rfl) (fun _ _ _ h => h) (Or.inl ⟨by rfl, ?_⟩) (by assumption) ?_
  rotate_left
  · intro w hSw
    try dsimp only at hSw
    go_simp
    try with_reducible rfl
  simp only [Act.put, List.setIfInBounds_toArray, List.set_cons_zero, List.set_cons_succ]
  refine take_at (i := 11) (d := 61) (v := ?_) rfl rfl (by kernel_rfl) (by kernel_rfl) (by kernel_rfl) (fun _ _ _ h => h) (Or.inl ⟨by rfl, ?_⟩) (by assumption) ?_
  rotate_left
  · intro w hSw
    try dsimp only at hSw
    go_simp
    try with_reducible rfl
  simp only [Act.put, List.setIfInBounds_toArray, List.set_cons_zero, List.set_cons_succ]
  refine take_at (i := 12) (d := 62) (v := ?_) rfl rfl (by kernel_rfl) (by kernel_rfl) (by kernel_rfl) (fun _ _ _ h => h) (Or.inl ⟨by rfl, ?_⟩) (by assumption) ?_
  rotate_left
  · intro w hSw
    try dsimp only at hSw
    go_simp
    try with_reducible rfl
  simp only [Act.put, List.setIfInBounds_toArray, List.set_cons_zero, List.set_cons_succ]
  refine take_at (i := 13) (d := 63) (v := ?_) rfl rfl (by kernel_rfl) (by kernel_rfl) (by kernel_rfl) (fun _ _ _ h => h) (Or.inl ⟨by rfl, ?_⟩) (by assumption) ?_
  rotate_left
  · intro w hSw
    try dsimp only at hSw
    go_simp
    try with_reducible rfl
  simp only [Act.put, List.setIfInBounds_toArray, List.set_cons_zero, List.set_cons_succ]
  refine take_at (i := 14) (d := 64) (v := ?_) rfl rfl (by kernel_rfl) (by kernel_rfl) (by kernel_rfl) (fun _ _ _ h => h) (Or.inl ⟨by rfl, ?_⟩) (by assumption) ?_
  rotate_left
  · intro w hSw
    try dsimp only at hSw
    go_simp
    try with_reducible rfl
  simp only [Act.put, List.setIfInBounds_toArray, List.set_cons_zero, List.set_cons_succ]
  refine ready_at (i := 15) rfl (by kernel_rfl) (fun KK hKK => ?_)
  go_simp
  have hgo := bz2
  refine (unhide IS _ _ _ _ _ ((unhide HE).below (Bw10.trans (hgo.mono Bw10.size))).pow (unhide RN _ hgo) (unhide RM _ hgo)).mono ?_
  rintro e wz8_3 ⟨rfl, bb⟩
  have bz3 : Below w10.heap.size w10 wz8_3 := bz2.trans (bb.mono bz2.size)
  clear bz2 hgo bb
  clear hHeld
  refine hKK.out _ _ (unhide K _ bz3) (fun hHeld => ?_)
  clear hKK KK
  refine take_at (i := 16) (d := 66) (v := ?_) rfl rfl (by kernel_rfl) (by kernel_rfl) (by kernel_rfl) (fun _ _ _ h => h) (Or.inl ⟨by rfl, ?_⟩) (by assumption) ?_
  rotate_left
  · intro w hSw
    try dsimp only at hSw
    go_simp
    try with_reducible rfl
  simp only [Act.put, List.setIfInBounds_toArray, List.set_cons_zero, List.set_cons_succ]
  refine take_at (i := 17) (d := 67) (v := ?_) rfl rfl (by kernel_rfl) (by kernel_rfl) (by kernel_rfl) (fun _ _ _ h => h) (Or.inl ⟨by rfl, ?_⟩) (by assumption) ?_
  rotate_left
  · intro w hSw
    try dsimp only at hSw
    go_simp
    try with_reducible rfl
  simp only [Act.put, List.setIfInBounds_toArray, List.set_cons_zero, List.set_cons_succ]
  refine take_at (i := 18) (d := 68) (v := ?_) rfl rfl (by kernel_rfl) (by kernel_rfl) (by kernel_rfl) (fun _ _ _ h => h) (Or.inl ⟨by rfl, ?_⟩) (by assumption) ?_
  rotate_left
  · intro w hSw
    try dsimp only at hSw
    go_simp
    try with_reducible rfl
  simp only [Act.put, List.setIfInBounds_toArray, List.set_cons_zero, List.set_cons_succ]
  refine take_at (i := 19) (d := 69) (v := ?_) rfl rfl (by kernel_rfl) (by kernel_rfl) (by kernel_rfl) (fun _ _ _ h => h) (Or.inl ⟨by rfl, ?_⟩) (by assumption) ?_
  rotate_left
  · intro w hSw
    try dsimp only at hSw
    go_simp
    try with_reducible rfl
  simp only [Act.put, List.setIfInBounds_toArray, List.set_cons_zero, List.set_cons_succ]
  refine take_at (i := 20) (d := 70) (v := ?_) rfl rfl (by kernel_rfl) (by kernel_rfl) (by kernel_rfl) (fun _ _ _ h => h) (Or.inl ⟨by rfl, ?_⟩) (by assumption) ?_
  rotate_left
  · intro w hSw
    try dsimp only at hSw
    go_simp
    try with_reducible rfl
  simp only [Act.put, List.setIfInBounds_toArray, List.set_cons_zero, List.set_cons_succ]
  refine take_at (i := 22) (d := 72) (v := ?_) rfl rfl (by kernel_rfl) (by kernel_rfl) (by kernel_rfl) (fun _ _ _ h => h) (Or.inl ⟨by rfl, ?_⟩) (by assumption) ?_
  rotate_left
  · intro w hSw
    try dsimp only at hSw
    go_simp
    try with_reducible rfl
  simp only [Act.put, List.setIfInBounds_toArray, List.set_cons_zero, List.set_cons_succ]
  refine take_at (i := 23) (d := 73) (v := ?_) rfl rfl (by kernel_rfl) (by kernel_rfl) (by kernel_rfl) (fun _ _ _ h => h) (Or.inl ⟨by rfl, ?_⟩) (by assumption) ?_
  rotate_left
  · intro w hSw
    try dsimp only at hSw
    go_simp
    try with_reducible rfl
  simp only [Act.put, List.setIfInBounds_toArray, List.set_cons_zero, List.set_cons_succ]
  refine ready_at (i := 21) rfl (by kernel_rfl) (fun KK hKK => ?_)
  go_simp
  have hgo := bz3
  refine (unhide IT _ _ _ _ _ ((unhide HE).below (Bw10.trans (hgo.mono Bw10.size))).pow (unhide RA _ hgo) (unhide RY _ hgo)).mono ?_
  rintro e wz8_4 ⟨rfl, bb⟩
  have bz4 : Below w10.heap.size w10 wz8_4 := bz3.trans (bb.mono bz3.size)
  clear bz3 hgo bb
  clear hHeld
  refine hKK.out _ _ (unhide K _ bz4) (fun hHeld => ?_)
  clear hKK KK
  refine ready_at (i := 24) rfl (by kernel_rfl) (fun KK hKK => ?_)
  go_simp
  have hgo := bz4
  refine (unhide ST _ _ _ _ _ (unhide RA _ hgo) (unhide RY _ hgo)).mono ?_
  rintro e wz8_5 ⟨rfl, bb⟩
  have bz5 : Below w10.heap.size w10 wz8_5 := bz4.trans (bb.mono bz4.size)
  clear RB RN RM RA RY
  clear bz4 hgo bb
  clear hHeld
  refine hKK.out _ _ (unhide K _ bz5) (fun hHeld => ?_)
  clear hKK KK
  refine take_at (i := 25) (d := 75) (v := ?_) rfl rfl (by kernel_rfl) (by kernel_rfl) (by kernel_rfl) (fun _ _ _ h => h) (Or.inl ⟨by rfl, ?_⟩) (by assumption) ?_
  rotate_left
  · intro w hSw
    try dsimp only at hSw
    go_simp
    try with_reducible rfl
  simp only [Act.put, List.setIfInBounds_toArray, List.set_cons_zero, List.set_cons_succ]
  refine take_at (i := 26) (d := 76) (v := ?_) rfl rfl (by kernel_rfl) (by kernel_rfl) (by kernel_rfl) (fun _ _ _ h => h) (Or.inl ⟨by rfl, ?_⟩) (by assumption) ?_
  rotate_left
  · intro w hSw
    try dsimp only at hSw
    go_simp
    try with_reducible rfl
  simp only [Act.put, List.setIfInBounds_toArray, List.set_cons_zero, List.set_cons_succ]
  clear hHeld
  refine wpAnyH_done (by kernel_rfl) ?_ _
  refine NoPanic.normal ?_
  have bb := bz5
  have Bwz8_5 := Bw10.trans (bb.mono Bw10.size)
  have swz8_5 := bb.size
  replace LC := LC.below bb LC.lt
  replace LB := LB.below bb LB.lt
  replace LD := LD.below bb LD.lt
  replace LQ := LQ.below bb LQ.lt
  replace LN := LN.below bb LN.lt
  replace LM := LM.below bb LM.lt
  replace LX := LX.below bb LX.lt
  replace LY := LY.below bb LY.lt
  replace oB := oB.below bb
  replace oQ := oQ.below bb
  replace oN := oN.below bb
  replace oM := oM.below bb
  replace oA := oA.below bb
  replace oY := oY.below bb
  clear Bw10
  clear bb bz5 K
  clear SB IS IT ST hqs
  clear oA oY oM LX LY LM
  cases qb
  · have RB := hide fun w' (hb' : Below wz8_5.heap.size wz8_5 w') => (oB.below hb').ri (by omega)
    have K : Hid (∀ w', Below wz8_5.heap.size wz8_5 w' → (fun w' => Below wz8_5.heap.size wz8_5 w' ∧ (w'.cell? ⟨w1.heap.size, 0, none⟩ = some (.int .i64 n) ∧ w'.cell? ⟨w1.heap.size, 1, none⟩ = some (.int .i64 f)) ∧ (w'.cell? ⟨w1.heap.size + 1, 0, none⟩ = some (.string m) ∧ w'.cell? ⟨w1.heap.size + 1, 1, none⟩ = some (.int .i64 v) ∧ w'.cell? ⟨w1.heap.size + 1, 2, none⟩ = some (.string s) ∧ w'.cell? ⟨w1.heap.size + 1, 3, none⟩ = some (.slice aoB xs.length koB))) w') := hide fun w' hb' => ⟨hb', ⟨(LC.below hb' LC.lt).cell 0 rfl, (LC.below hb' LC.lt).cell 1 rfl⟩, ⟨(LB.below hb' LB.lt).cell 0 rfl, (LB.below hb' LB.lt).cell 1 rfl, (LB.below hb' LB.lt).cell 2 rfl, (LB.below hb' LB.lt).cell 3 rfl⟩⟩
    go_upto_region 10 with fail
    have bA : Below wz8_5.heap.size wz8_5 wz8_5.drew := Below.drew (Below.refl _ _)
    refine wp_region_noPanic ?_
    refine wp_region_held_drew (S := fun w' => Below wz8_5.heap.size wz8_5 w' ∧ (w'.cell? ⟨w1.heap.size, 0, none⟩ = some (.int .i64 n) ∧ w'.cell? ⟨w1.heap.size, 1, none⟩ = some (.int .i64 f)) ∧ (w'.cell? ⟨w1.heap.size + 1, 0, none⟩ = some (.string m) ∧ w'.cell? ⟨w1.heap.size + 1, 1, none⟩ = some (.int .i64 v) ∧ w'.cell? ⟨w1.heap.size + 1, 2, none⟩ = some (.string s) ∧ w'.cell? ⟨w1.heap.size + 1, 3, none⟩ = some (.slice aoB xs.length koB))) (by kernel_rfl) (unhide K _ bA) (fun hHeld => ?_)
    refine take_at (i := 0) (d := 77) (v := ?_) rfl rfl (by kernel_rfl) (by kernel_rfl) (by kernel_rfl) (fun _ _ _ h => h) (Or.inl ⟨by rfl, ?_⟩) (by assumption) ?_
    rotate_left
    · intro w hSw
      try dsimp only at hSw
      go_simp
      try with_reducible rfl
    simp only [Act.put, List.setIfInBounds_toArray, List.set_cons_zero, List.set_cons_succ]
    refine take_at (i := 1) (d := 78) (v := ?_) rfl rfl (by kernel_rfl) (by kernel_rfl) (by kernel_rfl) (fun _ _ _ h => h) (Or.inl ⟨by rfl, ?_⟩) (by assumption) ?_
    rotate_left
    · intro w hSw
      try dsimp only at hSw
      go_simp
      try with_reducible rfl
    simp only [Act.put, List.setIfInBounds_toArray, List.set_cons_zero, List.set_cons_succ]
    refine ready_at (i := 2) rfl (by kernel_rfl) (fun KK hKK => ?_)
    go_simp
    have hgo := bA
    refine (unhide IB _ _ _ ((unhide HE).below (Bwz8_5.trans (hgo.mono Bwz8_5.size))) (unhide RB _ hgo)).mono ?_
    rintro e wz10_1 ⟨rfl, bb⟩
    have bz1 : Below wz8_5.heap.size wz8_5 wz10_1 := bA.trans (bb.mono bA.size)
    clear RB
    clear bA hgo bb
    clear hHeld
    refine hKK.out _ _ (unhide K _ bz1) (fun hHeld => ?_)
    clear hKK KK
    refine take_at (i := 3) (d := 80) (v := ?_) rfl rfl (by kernel_rfl) (by kernel_rfl) (by kernel_rfl) (fun _ _ _ h => h) (Or.inl ⟨by rfl, ?_⟩) (by assumption) ?_
    rotate_left
    · intro w hSw
      try dsimp only at hSw
      go_simp
      try with_reducible rfl
    simp only [Act.put, List.setIfInBounds_toArray, List.set_cons_zero, List.set_cons_succ]
    refine take_at (i := 4) (d := 81) (v := undef) rfl rfl (by kernel_rfl) (by kernel_rfl) (by kernel_rfl) (fun _ _ _ h => h) (Or.inr ⟨by rfl, rfl⟩) (by assumption) ?_
    simp only [Act.put, List.setIfInBounds_toArray, List.set_cons_zero, List.set_cons_succ]
    refine take_at (i := 7) (d := 84) (v := undef) rfl rfl (by kernel_rfl) (by kernel_rfl) (by kernel_rfl) (fun _ _ _ h => h) (Or.inr ⟨by rfl, rfl⟩) (by assumption) ?_
    simp only [Act.put, List.setIfInBounds_toArray, List.set_cons_zero, List.set_cons_succ]
    refine take_at (i := 5) (d := 82) (v := undef) rfl rfl (by kernel_rfl) (by kernel_rfl) (by kernel_rfl) (fun _ _ _ h => h) (Or.inr ⟨by rfl, rfl⟩) (by assumption) ?_
    simp only [Act.put, List.setIfInBounds_toArray, List.set_cons_zero, List.set_cons_succ]
    refine take_at (i := 8) (d := 85) (v := undef) rfl rfl (by kernel_rfl) (by kernel_rfl) (by kernel_rfl) (fun _ _ _ h => h) (Or.inr ⟨by rfl, rfl⟩) (by assumption) ?_
    simp only [Act.put, List.setIfInBounds_toArray, List.set_cons_zero, List.set_cons_succ]
    refine take_at (i := 6) (d := 83) (v := undef) rfl rfl (by kernel_rfl) (by kernel_rfl) (by kernel_rfl) (fun _ _ _ h => h) (Or.inr ⟨by rfl, rfl⟩) (by assumption) ?_
    simp only [Act.put, List.setIfInBounds_toArray, List.set_cons_zero, List.set_cons_succ]
    refine take_at (i := 9) (d := 86) (v := undef) rfl rfl (by kernel_rfl) (by kernel_rfl) (by kernel_rfl) (fun _ _ _ h => h) (Or.inr ⟨by rfl, rfl⟩) (by assumption) ?_
    simp only [Act.put, List.setIfInBounds_toArray, List.set_cons_zero, List.set_cons_succ]
    refine take_at (i := 10) (d := 87) (v := undef) rfl rfl (by kernel_rfl) (by kernel_rfl) (by kernel_rfl) (fun _ _ _ h => h) (Or.inr ⟨by rfl, rfl⟩) (by assumption) ?_
    simp only [Act.put, List.setIfInBounds_toArray, List.set_cons_zero, List.set_cons_succ]
    refine take_at (i := 11) (d := 88) (v := undef) rfl rfl (by kernel_rfl) (by kernel_rfl) (by kernel_rfl) (fun _ _ _ h => h) (Or.inr ⟨by rfl, rfl⟩) (by assumption) ?_
    simp only [Act.put, List.setIfInBounds_toArray, List.set_cons_zero, List.set_cons_succ]
    refine take_at (i := 12) (d := 89) (v := undef) rfl rfl (by kernel_rfl) (by kernel_rfl) (by kernel_rfl) (fun _ _ _ h => h) (Or.inr ⟨by rfl, rfl⟩) (by assumption) ?_
    simp only [Act.put, List.setIfInBounds_toArray, List.set_cons_zero, List.set_cons_succ]
    refine take_at (i := 14) (d := 91) (v := undef) rfl rfl (by kernel_rfl) (by kernel_rfl) (by kernel_rfl) (fun _ _ _ h => h) (Or.inr ⟨by rfl, rfl⟩) (by assumption) ?_
    simp only [Act.put, List.setIfInBounds_toArray, List.set_cons_zero, List.set_cons_succ]
    refine take_at (i := 13) (d := 90) (v := undef) rfl rfl (by kernel_rfl) (by kernel_rfl) (by kernel_rfl) (fun _ _ _ h => h) (Or.inr ⟨by rfl, rfl⟩) (by assumption) ?_
    simp only [Act.put, List.setIfInBounds_toArray, List.set_cons_zero, List.set_cons_succ]
    refine take_at (i := 15) (d := 92) (v := undef) rfl rfl (by kernel_rfl) (by kernel_rfl) (by kernel_rfl) (fun _ _ _ h => h) (Or.inr ⟨by rfl, rfl⟩) (by assumption) ?_
    simp only [Act.put, List.setIfInBounds_toArray, List.set_cons_zero, List.set_cons_succ]
    refine take_at (i := 16) (d := 93) (v := undef) rfl rfl (by kernel_rfl) (by kernel_rfl) (by kernel_rfl) (fun _ _ _ h => h) (Or.inr ⟨by rfl, rfl⟩) (by assumption) ?_
    simp only [Act.put, List.setIfInBounds_toArray, List.set_cons_zero, List.set_cons_succ]
    refine take_at (i := 17) (d := 94) (v := undef) rfl rfl (by kernel_rfl) (by kernel_rfl) (by kernel_rfl) (fun _ _ _ h => h) (Or.inr ⟨by rfl, rfl⟩) (by assumption) ?_
    simp only [Act.put, List.setIfInBounds_toArray, List.set_cons_zero, List.set_cons_succ]
    refine take_at (i := 18) (d := 95) (v := undef) rfl rfl (by kernel_rfl) (by kernel_rfl) (by kernel_rfl) (fun _ _ _ h => h) (Or.inr ⟨by rfl, rfl⟩) (by assumption) ?_
    simp only [Act.put, List.setIfInBounds_toArray, List.set_cons_zero, List.set_cons_succ]
    refine take_at (i := 19) (d := 96) (v := undef) rfl rfl (by kernel_rfl) (by kernel_rfl) (by kernel_rfl) (fun _ _ _ h => h) (Or.inr ⟨by rfl, rfl⟩) (by assumption) ?_
    simp only [Act.put, List.setIfInBounds_toArray, List.set_cons_zero, List.set_cons_succ]
    refine take_at (i := 20) (d := 97) (v := undef) rfl rfl (by kernel_rfl) (by kernel_rfl) (by kernel_rfl) (fun _ _ _ h => h) (Or.inr ⟨by rfl, rfl⟩) (by assumption) ?_
    simp only [Act.put, List.setIfInBounds_toArray, List.set_cons_zero, List.set_cons_succ]
    refine take_at (i := 21) (d := 98) (v := undef) rfl rfl (by kernel_rfl) (by kernel_rfl) (by kernel_rfl) (fun _ _ _ h => h) (Or.inr ⟨by rfl, rfl⟩) (by assumption) ?_
    simp only [Act.put, List.setIfInBounds_toArray, List.set_cons_zero, List.set_cons_succ]
    refine take_at (i := 24) (d := 101) (v := undef) rfl rfl (by kernel_rfl) (by kernel_rfl) (by kernel_rfl) (fun _ _ _ h => h) (Or.inr ⟨by rfl, rfl⟩) (by assumption) ?_
    simp only [Act.put, List.setIfInBounds_toArray, List.set_cons_zero, List.set_cons_succ]
    refine take_at (i := 22) (d := 99) (v := undef) rfl rfl (by kernel_rfl) (by kernel_rfl) (by kernel_rfl) (fun _ _ _ h => h) (Or.inr ⟨by rfl, rfl⟩) (by assumption) ?_
    simp only [Act.put, List.setIfInBounds_toArray, List.set_cons_zero, List.set_cons_succ]
    refine take_at (i := 25) (d := 102) (v := undef) rfl rfl (by kernel_rfl) (by kernel_rfl) (by kernel_rfl) (fun _ _ _ h => h) (Or.inr ⟨by rfl, rfl⟩) (by assumption) ?_
    simp only [Act.put, List.setIfInBounds_toArray, List.set_cons_zero, List.set_cons_succ]
    refine take_at (i := 23) (d := 100) (v := undef) rfl rfl (by kernel_rfl) (by kernel_rfl) (by kernel_rfl) (fun _ _ _ h => h) (Or.inr ⟨by rfl, rfl⟩) (by assumption) ?_
    simp only [Act.put, List.setIfInBounds_toArray, List.set_cons_zero, List.set_cons_succ]
    refine take_at (i := 26) (d := 103) (v := undef) rfl rfl (by kernel_rfl) (by kernel_rfl) (by kernel_rfl) (fun _ _ _ h => h) (Or.inr ⟨by rfl, rfl⟩) (by assumption) ?_
    simp only [Act.put, List.setIfInBounds_toArray, List.set_cons_zero, List.set_cons_succ]
    refine take_at (i := 27) (d := 104) (v := undef) rfl rfl (by kernel_rfl) (by kernel_rfl) (by kernel_rfl) (fun _ _ _ h => h) (Or.inr ⟨by rfl, rfl⟩) (by assumption) ?_
    simp only [Act.put, List.setIfInBounds_toArray, List.set_cons_zero, List.set_cons_succ]
    refine take_at (i := 28) (d := 105) (v := undef) rfl rfl (by kernel_rfl) (by kernel_rfl) (by kernel_rfl) (fun _ _ _ h => h) (Or.inr ⟨by rfl, rfl⟩) (by assumption) ?_
    simp only [Act.put, List.setIfInBounds_toArray, List.set_cons_zero, List.set_cons_succ]
    refine take_at (i := 29) (d := 106) (v := undef) rfl rfl (by kernel_rfl) (by kernel_rfl) (by kernel_rfl) (fun _ _ _ h => h) (Or.inr ⟨by rfl, rfl⟩) (by assumption) ?_
    simp only [Act.put, List.setIfInBounds_toArray, List.set_cons_zero, List.set_cons_succ]
    refine take_at (i := 30) (d := 107) (v := undef) rfl rfl (by kernel_rfl) (by kernel_rfl) (by kernel_rfl) (fun _ _ _ h => h) (Or.inr ⟨by rfl, rfl⟩) (by assumption) ?_
    simp only [Act.put, List.setIfInBounds_toArray, List.set_cons_zero, List.set_cons_succ]
    refine take_at (i := 31) (d := 108) (v := ?_) rfl rfl (by kernel_rfl) (by kernel_rfl) (by kernel_rfl) (fun _ _ _ h => h) (Or.inl ⟨by rfl, ?_⟩) (by assumption) ?_
    rotate_left
    · intro w hSw
      try dsimp only at hSw
      go_simp
      try with_reducible rfl
    simp only [Act.put, List.setIfInBounds_toArray, List.set_cons_zero, List.set_cons_succ]
    clear hHeld
    refine wpAnyH_done (by kernel_rfl) ?_ _
    refine NoPanic.normal ?_
    have bb := bz1
    have Bwz10_1 := Bwz8_5.trans (bb.mono Bwz8_5.size)
    have swz10_1 := bb.size
    replace LC := LC.below bb LC.lt
    replace LB := LB.below bb LB.lt
    replace LD := LD.below bb LD.lt
    replace LQ := LQ.below bb LQ.lt
    replace LN := LN.below bb LN.lt
    replace oB := oB.below bb
    replace oQ := oQ.below bb
    replace oN := oN.below bb
    clear Bwz8_5
    clear bb bz1 K
    cases q1
    · have K : Hid (∀ w', Below wz10_1.heap.size wz10_1 w' → (fun w' => Below wz10_1.heap.size wz10_1 w' ∧ (w'.cell? ⟨w3.heap.size, 0, none⟩ = some (.int .i64 n') ∧ w'.cell? ⟨w3.heap.size, 1, none⟩ = some (.int .i64 f')) ∧ (w'.cell? ⟨w5.heap.size, 0, none⟩ = some (.string m1) ∧ w'.cell? ⟨w5.heap.size, 1, none⟩ = some (.int .i64 n1) ∧ w'.cell? ⟨w5.heap.size, 2, none⟩ = some (.string s1) ∧ w'.cell? ⟨w5.heap.size, 3, none⟩ = some (.slice aoN x1.length koN)) ∧ (w'.cell? ⟨w3.heap.size + 1, 0, none⟩ = some (.int .i64 v') ∧ w'.cell? ⟨w3.heap.size + 1, 1, none⟩ = some (.string s') ∧ w'.cell? ⟨w3.heap.size + 1, 2, none⟩ = some (.slice aoQ ys.length koQ))) w') := hide fun w' hb' => ⟨hb', ⟨(LD.below hb' LD.lt).cell 0 rfl, (LD.below hb' LD.lt).cell 1 rfl⟩, ⟨(LN.below hb' LN.lt).cell 0 rfl, (LN.below hb' LN.lt).cell 1 rfl, (LN.below hb' LN.lt).cell 2 rfl, (LN.below hb' LN.lt).cell 3 rfl⟩, ⟨(LQ.below hb' LQ.lt).cell 0 rfl, (LQ.below hb' LQ.lt).cell 1 rfl, (LQ.below hb' LQ.lt).cell 2 rfl⟩⟩
      go_upto_region 12 with fail
      have bA : Below wz10_1.heap.size wz10_1 wz10_1.drew := Below.drew (Below.refl _ _)
      refine wp_region_noPanic ?_
      refine wp_region_held_drew (S := fun w' => Below wz10_1.heap.size wz10_1 w' ∧ (w'.cell? ⟨w3.heap.size, 0, none⟩ = some (.int .i64 n') ∧ w'.cell? ⟨w3.heap.size, 1, none⟩ = some (.int .i64 f')) ∧ (w'.cell? ⟨w5.heap.size, 0, none⟩ = some (.string m1) ∧ w'.cell? ⟨w5.heap.size, 1, none⟩ = some (.int .i64 n1) ∧ w'.cell? ⟨w5.heap.size, 2, none⟩ = some (.string s1) ∧ w'.cell? ⟨w5.heap.size, 3, none⟩ = some (.slice aoN x1.length koN)) ∧ (w'.cell? ⟨w3.heap.size + 1, 0, none⟩ = some (.int .i64 v') ∧ w'.cell? ⟨w3.heap.size + 1, 1, none⟩ = some (.string s') ∧ w'.cell? ⟨w3.heap.size + 1, 2, none⟩ = some (.slice aoQ ys.length koQ))) (by kernel_rfl) (unhide K _ bA) (fun hHeld => ?_)
      refine take_at (i := 0) (d := 109) (v := ?_) rfl rfl (by kernel_rfl) (by kernel_rfl) (by kernel_rfl) (fun _ _ _ h => h) (Or.inl ⟨by rfl, ?_⟩) (by assumption) ?_
      rotate_left
      · intro w hSw
        try dsimp only at hSw
        go_simp
        try with_reducible rfl
      simp only [Act.put, List.setIfInBounds_toArray, List.set_cons_zero, List.set_cons_succ]
      refine take_at (i := 1) (d := 110) (v := ?_) rfl rfl (by kernel_rfl) (by kernel_rfl) (by kernel_rfl) (fun _ _ _ h => h) (Or.inl ⟨by rfl, ?_⟩) (by assumption) ?_
      rotate_left
      · intro w hSw
        try dsimp only at hSw
        go_simp
        try with_reducible rfl
      simp only [Act.put, List.setIfInBounds_toArray, List.set_cons_zero, List.set_cons_succ]
      refine take_at (i := 2) (d := 111) (v := ?_) rfl rfl (by kernel_rfl) (by kernel_rfl) (by kernel_rfl) (fun _ _ _ h => h) (Or.inl ⟨by rfl, ?_⟩) (by assumption) ?_
      rotate_left
      · intro w hSw
        try dsimp only at hSw
        go_simp
        try with_reducible rfl
      simp only [Act.put, List.setIfInBounds_toArray, List.set_cons_zero, List.set_cons_succ]
      refine take_at (i := 3) (d := 112) (v := undef) rfl rfl (by kernel_rfl) (by kernel_rfl) (by kernel_rfl) (fun _ _ _ h => h) (Or.inr ⟨by rfl, rfl⟩) (by assumption) ?_
      simp only [Act.put, List.setIfInBounds_toArray, List.set_cons_zero, List.set_cons_succ]
      refine take_at (i := 4) (d := 113) (v := undef) rfl rfl (by kernel_rfl) (by kernel_rfl) (by kernel_rfl) (fun _ _ _ h => h) (Or.inr ⟨by rfl, rfl⟩) (by assumption) ?_
      simp only [Act.put, List.setIfInBounds_toArray, List.set_cons_zero, List.set_cons_succ]
      refine take_at (i := 5) (d := 114) (v := undef) rfl rfl (by kernel_rfl) (by kernel_rfl) (by kernel_rfl) (fun _ _ _ h => h) (Or.inr ⟨by rfl, rfl⟩) (by assumption) ?_
      simp only [Act.put, List.setIfInBounds_toArray, List.set_cons_zero, List.set_cons_succ]
      refine take_at (i := 6) (d := 115) (v := undef) rfl rfl (by kernel_rfl) (by kernel_rfl) (by kernel_rfl) (fun _ _ _ h => h) (Or.inr ⟨by rfl, rfl⟩) (by assumption) ?_
      simp only [Act.put, List.setIfInBounds_toArray, List.set_cons_zero, List.set_cons_succ]
      refine take_at (i := 7) (d := 116) (v := undef) rfl rfl (by kernel_rfl) (by kernel_rfl) (by kernel_rfl) (fun _ _ _ h => h) (Or.inr ⟨by rfl, rfl⟩) (by assumption) ?_
      simp only [Act.put, List.setIfInBounds_toArray, List.set_cons_zero, List.set_cons_succ]
      refine take_at (i := 10) (d := 119) (v := undef) rfl rfl (by kernel_rfl) (by kernel_rfl) (by kernel_rfl) (fun _ _ _ h => h) (Or.inr ⟨by rfl, rfl⟩) (by assumption) ?_
      simp only [Act.put, List.setIfInBounds_toArray, List.set_cons_zero, List.set_cons_succ]
      refine take_at (i := 8) (d := 117) (v := undef) rfl rfl (by kernel_rfl) (by kernel_rfl) (by kernel_rfl) (fun _ _ _ h => h) (Or.inr ⟨by rfl, rfl⟩) (by assumption) ?_
      simp only [Act.put, List.setIfInBounds_toArray, List.set_cons_zero, List.set_cons_succ]
      refine take_at (i := 9) (d := 118) (v := undef) rfl rfl (by kernel_rfl) (by kernel_rfl) (by kernel_rfl) (fun _ _ _ h => h) (Or.inr ⟨by rfl, rfl⟩) (by assumption) ?_
      simp only [Act.put, List.setIfInBounds_toArray, List.set_cons_zero, List.set_cons_succ]
      refine take_at (i := 11) (d := 120) (v := undef) rfl rfl (by kernel_rfl) (by kernel_rfl) (by kernel_rfl) (fun _ _ _ h => h) (Or.inr ⟨by rfl, rfl⟩) (by assumption) ?_
      simp only [Act.put, List.setIfInBounds_toArray, List.set_cons_zero, List.set_cons_succ]
      refine take_at (i := 12) (d := 121) (v := undef) rfl rfl (by kernel_rfl) (by kernel_rfl) (by kernel_rfl) (fun _ _ _ h => h) (Or.inr ⟨by rfl, rfl⟩) (by assumption) ?_
      simp only [Act.put, List.setIfInBounds_toArray, List.set_cons_zero, List.set_cons_succ]
      refine take_at (i := 13) (d := 122) (v := undef) rfl rfl (by kernel_rfl) (by kernel_rfl) (by kernel_rfl) (fun _ _ _ h => h) (Or.inr ⟨by rfl, rfl⟩) (by assumption) ?_
      simp only [Act.put, List.setIfInBounds_toArray, List.set_cons_zero, List.set_cons_succ]
      refine take_at (i := 14) (d := 123) (v := undef) rfl rfl (by kernel_rfl) (by kernel_rfl) (by kernel_rfl) (fun _ _ _ h => h) (Or.inr ⟨by rfl, rfl⟩) (by assumption) ?_
      simp only [Act.put, List.setIfInBounds_toArray, List.set_cons_zero, List.set_cons_succ]
      refine take_at (i := 17) (d := 126) (v := undef) rfl rfl (by kernel_rfl) (by kernel_rfl) (by kernel_rfl) (fun _ _ _ h => h) (Or.inr ⟨by rfl, rfl⟩) (by assumption) ?_
      simp only [Act.put, List.setIfInBounds_toArray, List.set_cons_zero, List.set_cons_succ]
      refine take_at (i := 15) (d := 124) (v := undef) rfl rfl (by kernel_rfl) (by kernel_rfl) (by kernel_rfl) (fun _ _ _ h => h) (Or.inr ⟨by rfl, rfl⟩) (by assumption) ?_
      simp only [Act.put, List.setIfInBounds_toArray, List.set_cons_zero, List.set_cons_succ]
      refine take_at (i := 18) (d := 127) (v := undef) rfl rfl (by kernel_rfl) (by kernel_rfl) (by kernel_rfl) (fun _ _ _ h => h) (Or.inr ⟨by rfl, rfl⟩) (by assumption) ?_
      simp only [Act.put, List.setIfInBounds_toArray, List.set_cons_zero, List.set_cons_succ]
      refine take_at (i := 16) (d := 125) (v := undef) rfl rfl (by kernel_rfl) (by kernel_rfl) (by kernel_rfl) (fun _ _ _ h => h) (Or.inr ⟨by rfl, rfl⟩) (by assumption) ?_
      simp only [Act.put, List.setIfInBounds_toArray, List.set_cons_zero, List.set_cons_succ]
      refine take_at (i := 19) (d := 128) (v := undef) rfl rfl (by kernel_rfl) (by kernel_rfl) (by kernel_rfl) (fun _ _ _ h => h) (Or.inr ⟨by rfl, rfl⟩) (by assumption) ?_
      simp only [Act.put, List.setIfInBounds_toArray, List.set_cons_zero, List.set_cons_succ]
      refine take_at (i := 20) (d := 129) (v := undef) rfl rfl (by kernel_rfl) (by kernel_rfl) (by kernel_rfl) (fun _ _ _ h => h) (Or.inr ⟨by rfl, rfl⟩) (by assumption) ?_
      simp only [Act.put, List.setIfInBounds_toArray, List.set_cons_zero, List.set_cons_succ]
      refine take_at (i := 21) (d := 130) (v := ?_) rfl rfl (by kernel_rfl) (by kernel_rfl) (by kernel_rfl) (fun _ _ _ h => h) (Or.inl ⟨by rfl, ?_⟩) (by assumption) ?_
      rotate_left
      · intro w hSw
        try dsimp only at hSw
        go_simp
        try with_reducible rfl
      simp only [Act.put, List.setIfInBounds_toArray, List.set_cons_zero, List.set_cons_succ]
      refine take_at (i := 22) (d := 2) (v := ?_) rfl rfl (by kernel_rfl) (by kernel_rfl) (by kernel_rfl) (fun _ _ _ h => h) (Or.inl ⟨by rfl, ?_⟩) (by assumption) ?_
      rotate_left
      · intro w hSw
        try dsimp only at hSw
        go_simp
        try with_reducible rfl
      simp only [Act.put, List.setIfInBounds_toArray, List.set_cons_zero, List.set_cons_succ]
      clear hHeld
      refine wpAnyH_done (by kernel_rfl) ?_ _
      refine NoPanic.normal ?_
      obtain ⟨wd12, hwd⟩ : ∃ y, wz10_1.drew = y := ⟨_, rfl⟩
      rw [hwd] at bA ⊢
      clear hwd
      have bb := bA
      have Bwd12 := Bwz10_1.trans (bb.mono Bwz10_1.size)
      have swd12 := bb.size
      replace LC := LC.below bb LC.lt
      replace LB := LB.below bb LB.lt
      replace LD := LD.below bb LD.lt
      replace LQ := LQ.below bb LQ.lt
      replace LN := LN.below bb LN.lt
      replace oB := oB.below bb
      replace oQ := oQ.below bb
      replace oN := oN.below bb
      clear Bwz10_1
      clear bb bA K
      go_wp2
      go_ret
      exact ⟨rfl, Bwd12⟩
    · obtain ⟨hb1, hvw1, hup1⟩ := unhide HN rfl
      have IN := hide fun a k w e h => implBlockOk n' f' m1 n1 s1 a k x1 w (by omega) (by omega) e h
      rw [hb1] at IN
      have VN := hide fun w e => implViewOf m1 w (by omega) e
      rw [hvw1] at VN
      have UN := hide fun w e => implUpOf m1 w (by omega) e
      rw [hup1] at UN
      clear hb1 hvw1 hup1 HN
      have hvv : (view == view) = true := by simp
      have hss : (s'.toList == s'.toList) = true := by simp
      have RN := hide fun w' (hb' : Below wz10_1.heap.size wz10_1 w') => (oN.below hb').ri (by omega)
      have K : Hid (∀ w', Below wz10_1.heap.size wz10_1 w' → (fun w' => Below wz10_1.heap.size wz10_1 w' ∧ (w'.cell? ⟨w3.heap.size, 0, none⟩ = some (.int .i64 n') ∧ w'.cell? ⟨w3.heap.size, 1, none⟩ = some (.int .i64 f')) ∧ (w'.cell? ⟨w5.heap.size, 0, none⟩ = some (.string m1) ∧ w'.cell? ⟨w5.heap.size, 1, none⟩ = some (.int .i64 n1) ∧ w'.cell? ⟨w5.heap.size, 2, none⟩ = some (.string s1) ∧ w'.cell? ⟨w5.heap.size, 3, none⟩ = some (.slice aoN x1.length koN)) ∧ (w'.cell? ⟨w3.heap.size + 1, 0, none⟩ = some (.int .i64 v') ∧ w'.cell? ⟨w3.heap.size + 1, 1, none⟩ = some (.string s') ∧ w'.cell? ⟨w3.heap.size + 1, 2, none⟩ = some (.slice aoQ ys.length koQ))) w') := hide fun w' hb' => ⟨hb', ⟨(LD.below hb' LD.lt).cell 0 rfl, (LD.below hb' LD.lt).cell 1 rfl⟩, ⟨(LN.below hb' LN.lt).cell 0 rfl, (LN.below hb' LN.lt).cell 1 rfl, (LN.below hb' LN.lt).cell 2 rfl, (LN.below hb' LN.lt).cell 3 rfl⟩, ⟨(LQ.below hb' LQ.lt).cell 0 rfl, (LQ.below hb' LQ.lt).cell 1 rfl, (LQ.below hb' LQ.lt).cell 2 rfl⟩⟩
      go_upto_region 12 with fail
      have bA : Below wz10_1.heap.size wz10_1 wz10_1.drew := Below.drew (Below.refl _ _)
      refine wp_region_noPanic ?_
      refine wp_region_held_drew (S := fun w' => Below wz10_1.heap.size wz10_1 w' ∧ (w'.cell? ⟨w3.heap.size, 0, none⟩ = some (.int .i64 n') ∧ w'.cell? ⟨w3.heap.size, 1, none⟩ = some (.int .i64 f')) ∧ (w'.cell? ⟨w5.heap.size, 0, none⟩ = some (.string m1) ∧ w'.cell? ⟨w5.heap.size, 1, none⟩ = some (.int .i64 n1) ∧ w'.cell? ⟨w5.heap.size, 2, none⟩ = some (.string s1) ∧ w'.cell? ⟨w5.heap.size, 3, none⟩ = some (.slice aoN x1.length koN)) ∧ (w'.cell? ⟨w3.heap.size + 1, 0, none⟩ = some (.int .i64 v') ∧ w'.cell? ⟨w3.heap.size + 1, 1, none⟩ = some (.string s') ∧ w'.cell? ⟨w3.heap.size + 1, 2, none⟩ = some (.slice aoQ ys.length koQ))) (by kernel_rfl) (unhide K _ bA) (fun hHeld => ?_)
      refine take_at (i := 0) (d := 109) (v := ?_) rfl rfl (by kernel_rfl) (by kernel_rfl) (by kernel_rfl) (fun _ _ _ h => h) (Or.inl ⟨by rfl, ?_⟩) (by assumption) ?_
      rotate_left
      · intro w hSw
        try dsimp only at hSw
        go_simp
        try with_reducible rfl
      simp only [Act.put, List.setIfInBounds_toArray, List.set_cons_zero, List.set_cons_succ]
      refine take_at (i := 1) (d := 110) (v := ?_) rfl rfl (by kernel_rfl) (by kernel_rfl) (by kernel_rfl) (fun _ _ _ h => h) (Or.inl ⟨by rfl, ?_⟩) (by assumption) ?_
      rotate_left
      · intro w hSw
        try dsimp only at hSw
        go_simp
        try with_reducible rfl
      simp only [Act.put, List.setIfInBounds_toArray, List.set_cons_zero, List.set_cons_succ]
      refine take_at (i := 2) (d := 111) (v := ?_) rfl rfl (by kernel_rfl) (by kernel_rfl) (by kernel_rfl) (fun _ _ _ h => h) (Or.inl ⟨by rfl, ?_⟩) (by assumption) ?_
      rotate_left
      · intro w hSw
        try dsimp only at hSw
        go_simp
        try with_reducible rfl
      simp only [Act.put, List.setIfInBounds_toArray, List.set_cons_zero, List.set_cons_succ]
      refine take_at (i := 3) (d := 112) (v := ?_) rfl rfl (by kernel_rfl) (by kernel_rfl) (by kernel_rfl) (fun _ _ _ h => h) (Or.inl ⟨by rfl, ?_⟩) (by assumption) ?_
      rotate_left
      · intro w hSw
        try dsimp only at hSw
        go_simp
        try with_reducible rfl
      simp only [Act.put, List.setIfInBounds_toArray, List.set_cons_zero, List.set_cons_succ]
      refine take_at (i := 4) (d := 113) (v := ?_) rfl rfl (by kernel_rfl) (by kernel_rfl) (by kernel_rfl) (fun _ _ _ h => h) (Or.inl ⟨by rfl, ?_⟩) (by assumption) ?_
      rotate_left
      · intro w hSw
        try dsimp only at hSw
        go_simp
        try with_reducible rfl
      simp only [Act.put, List.setIfInBounds_toArray, List.set_cons_zero, List.set_cons_succ]
      refine ready_at (i := 5) rfl (by kernel_rfl) (fun KK hKK => ?_)
      go_simp
      have hgo := bA
      refine (unhide IN _ _ _ ((unhide HE).below (Bwz10_1.trans (hgo.mono Bwz10_1.size))) (unhide RN _ hgo)).mono ?_
      rintro e wz12_1 ⟨rfl, bb⟩
      have bz1 : Below wz10_1.heap.size wz10_1 wz12_1 := bA.trans (bb.mono bA.size)
      clear bA hgo bb
      clear hHeld
      refine hKK.out _ _ (unhide K _ bz1) (fun hHeld => ?_)
      clear hKK KK
      refine take_at (i := 6) (d := 115) (v := ?_) rfl rfl (by kernel_rfl) (by kernel_rfl) (by kernel_rfl) (fun _ _ _ h => h) (Or.inl ⟨by rfl, ?_⟩) (by assumption) ?_
      rotate_left
      · intro w hSw
        try dsimp only at hSw
        go_simp
        try with_reducible rfl
      simp only [Act.put, List.setIfInBounds_toArray, List.set_cons_zero, List.set_cons_succ]
      refine take_at (i := 7) (d := 116) (v := ?_) rfl rfl (by kernel_rfl) (by kernel_rfl) (by kernel_rfl) (fun _ _ _ h => h) (Or.inl ⟨by rfl, ?_⟩) (by assumption) ?_
      rotate_left
      · intro w hSw
        try dsimp only at hSw
        go_simp
        try with_reducible rfl
      simp only [Act.put, List.setIfInBounds_toArray, List.set_cons_zero, List.set_cons_succ]
      refine take_at (i := 10) (d := 119) (v := ?_) rfl rfl (by kernel_rfl) (by kernel_rfl) (by kernel_rfl) (fun _ _ _ h => h) (Or.inl ⟨by rfl, ?_⟩) (by assumption) ?_
      rotate_left
      · intro w hSw
        try dsimp only at hSw
        go_simp
        try with_reducible rfl
      simp only [Act.put, List.setIfInBounds_toArray, List.set_cons_zero, List.set_cons_succ]
      refine take_at (i := 8) (d := 117) (v := ?_) rfl rfl (by kernel_rfl) (by kernel_rfl) (by kernel_rfl) (fun _ _ _ h => h) (Or.inl ⟨by rfl, ?_⟩) (by assumption) ?_
      rotate_left
      · intro w hSw
        try dsimp only at hSw
        go_simp
        try with_reducible rfl
      simp only [Act.put, List.setIfInBounds_toArray, List.set_cons_zero, List.set_cons_succ]
      refine ready_at (i := 9) rfl (by kernel_rfl) (fun KK hKK => ?_)
      go_simp
      have hgo := bz1
      refine (unhide VN _ ((unhide HE).below (Bwz10_1.trans (hgo.mono Bwz10_1.size)))).mono ?_
      rintro e wz12_2 ⟨rfl, bb⟩
      have bz2 : Below wz10_1.heap.size wz10_1 wz12_2 := bz1.trans (bb.mono bz1.size)
      clear bz1 hgo bb
      clear hHeld
      refine hKK.out _ _ (unhide K _ bz2) (fun hHeld => ?_)
      clear hKK KK
      refine take_at (i := 11) (d := 120) (v := ?_) rfl rfl (by kernel_rfl) (by kernel_rfl) (by kernel_rfl) (fun _ _ _ h => h) (Or.inl ⟨by rfl, ?_⟩) (by assumption) ?_
      rotate_left
      · intro w hSw
        try dsimp only at hSw
        go_simp
        try with_reducible rfl
      simp only [Act.put, List.setIfInBounds_toArray, List.set_cons_zero, List.set_cons_succ]
      refine take_at (i := 12) (d := 121) (v := ?_) rfl rfl (by kernel_rfl) (by kernel_rfl) (by kernel_rfl) (fun _ _ _ h => h) (Or.inl ⟨by rfl, ?_⟩) (by assumption) ?_
      rotate_left
      · intro w hSw
        try dsimp only at hSw
        go_simp
        try with_reducible rfl
      simp only [Act.put, List.setIfInBounds_toArray, List.set_cons_zero, List.set_cons_succ]
      refine take_at (i := 13) (d := 122) (v := ?_) rfl rfl (by kernel_rfl) (by kernel_rfl) (by kernel_rfl) (fun _ _ _ h => h) (Or.inl ⟨by rfl, ?_⟩) (by assumption) ?_
      rotate_left
      · intro w hSw
        try dsimp only at hSw
        go_simp
        try with_reducible rfl
      simp only [Act.put, List.setIfInBounds_toArray, List.set_cons_zero, List.set_cons_succ]
      refine take_at (i := 14) (d := 123) (v := ?_) rfl rfl (by kernel_rfl) (by kernel_rfl) (by kernel_rfl) (fun _ _ _ h => h) (Or.inl ⟨by rfl, ?_⟩) (by assumption) ?_
      rotate_left
      · intro w hSw
        try dsimp only at hSw
        go_simp
        try with_reducible rfl
      simp only [Act.put, List.setIfInBounds_toArray, List.set_cons_zero, List.set_cons_succ]
      refine take_at (i := 17) (d := 126) (v := ?_) rfl rfl (by kernel_rfl) (by kernel_rfl) (by kernel_rfl) (fun _ _ _ h => h) (Or.inl ⟨by rfl, ?_⟩) (by assumption) ?_
      rotate_left
      · intro w hSw
        try dsimp only at hSw
        go_simp
        try with_reducible rfl
      simp only [Act.put, List.setIfInBounds_toArray, List.set_cons_zero, List.set_cons_succ]
      refine take_at (i := 15) (d := 124) (v := ?_) rfl rfl (by kernel_rfl) (by kernel_rfl) (by kernel_rfl) (fun _ _ _ h => h) (Or.inl ⟨by rfl, ?_⟩) (by assumption) ?_
      rotate_left
      · intro w hSw
        try dsimp only at hSw
        go_simp
        try with_reducible rfl
      simp only [Act.put, List.setIfInBounds_toArray, List.set_cons_zero, List.set_cons_succ]
      refine take_at (i := 18) (d := 127) (v := ?_) rfl rfl (by kernel_rfl) (by kernel_rfl) (by kernel_rfl) (fun _ _ _ h => h) (Or.inl ⟨by rfl, ?_⟩) (by assumption) ?_
      rotate_left
      · intro w hSw
        try dsimp only at hSw
        go_simp
        try with_reducible rfl
      simp only [Act.put, List.setIfInBounds_toArray, List.set_cons_zero, List.set_cons_succ]
      refine ready_at (i := 16) rfl (by kernel_rfl) (fun KK hKK => ?_)
      go_simp
      have hgo := bz2
      refine (unhide UN _ ((unhide HE).below (Bwz10_1.trans (hgo.mono Bwz10_1.size)))).mono ?_
      rintro e wz12_3 ⟨rfl, bb⟩
      have bz3 : Below wz10_1.heap.size wz10_1 wz12_3 := bz2.trans (bb.mono bz2.size)
      clear RN
      clear bz2 hgo bb
      clear hHeld
      refine hKK.out _ _ (unhide K _ bz3) (fun hHeld => ?_)
      clear hKK KK
      refine take_at (i := 19) (d := 128) (v := ?_) rfl rfl (by kernel_rfl) (by kernel_rfl) (by kernel_rfl) (fun _ _ _ h => h) (Or.inl ⟨by rfl, ?_⟩) (by assumption) ?_
      rotate_left
      · intro w hSw
        try dsimp only at hSw
        go_simp
        try with_reducible rfl
      simp only [Act.put, List.setIfInBounds_toArray, List.set_cons_zero, List.set_cons_succ]
      refine take_at (i := 20) (d := 129) (v := ?_) rfl rfl (by kernel_rfl) (by kernel_rfl) (by kernel_rfl) (fun _ _ _ h => h) (Or.inl ⟨by rfl, ?_⟩) (by assumption) ?_
      rotate_left
      · intro w hSw
        try dsimp only at hSw
        go_simp
        try with_reducible rfl
      simp only [Act.put, List.setIfInBounds_toArray, List.set_cons_zero, List.set_cons_succ]
      refine take_at (i := 21) (d := 130) (v := ?_) rfl rfl (by kernel_rfl) (by kernel_rfl) (by kernel_rfl) (fun _ _ _ h => h) (Or.inl ⟨by rfl, ?_⟩) (by assumption) ?_
      rotate_left
      · intro w hSw
        try dsimp only at hSw
        go_simp
        try with_reducible rfl
      simp only [Act.put, List.setIfInBounds_toArray, List.set_cons_zero, List.set_cons_succ]
      refine take_at (i := 22) (d := 2) (v := ?_) rfl rfl (by kernel_rfl) (by kernel_rfl) (by kernel_rfl) (fun _ _ _ h => h) (Or.inl ⟨by rfl, ?_⟩) (by assumption) ?_
      rotate_left
      · intro w hSw
        try dsimp only at hSw
        go_simp
        try with_reducible rfl
      simp only [Act.put, List.setIfInBounds_toArray, List.set_cons_zero, List.set_cons_succ]
      clear hHeld
      refine wpAnyH_done (by kernel_rfl) ?_ _
      refine NoPanic.normal ?_
      have bb := bz3
      have Bwz12_3 := Bwz10_1.trans (bb.mono Bwz10_1.size)
      have swz12_3 := bb.size
      replace LC := LC.below bb LC.lt
      replace LB := LB.below bb LB.lt
      replace LD := LD.below bb LD.lt
      replace LQ := LQ.below bb LQ.lt
      replace LN := LN.below bb LN.lt
      replace oB := oB.below bb
      replace oQ := oQ.below bb
      replace oN := oN.below bb
      clear Bwz10_1
      clear bb bz3 K
      go_wp2
      go_ret
      exact ⟨rfl, Bwz12_3⟩
  · obtain ⟨hlt, hxm, hhh⟩ := unhide HB rfl
    subst hxm
    have d1 : decide (vm ≤ v) = false := by simp; omega
    have hwr : IntKind.i64.wrap (hS + 1) = hS + 1 := by rw [IntKind.wrap_i64]; omega
    have hh : (hM != hS + 1) = false := by simp [hhh]
    clear hlt hhh HB
    have RB := hide fun w' (hb' : Below wz8_5.heap.size wz8_5 w') => (oB.below hb').ri (by omega)
    have K : Hid (∀ w', Below wz8_5.heap.size wz8_5 w' → (fun w' => Below wz8_5.heap.size wz8_5 w' ∧ (w'.cell? ⟨w1.heap.size, 0, none⟩ = some (.int .i64 n) ∧ w'.cell? ⟨w1.heap.size, 1, none⟩ = some (.int .i64 f)) ∧ (w'.cell? ⟨w1.heap.size + 1, 0, none⟩ = some (.string m) ∧ w'.cell? ⟨w1.heap.size + 1, 1, none⟩ = some (.int .i64 v) ∧ w'.cell? ⟨w1.heap.size + 1, 2, none⟩ = some (.string s) ∧ w'.cell? ⟨w1.heap.size + 1, 3, none⟩ = some (.slice aoB xs.length koB))) w') := hide fun w' hb' => ⟨hb', ⟨(LC.below hb' LC.lt).cell 0 rfl, (LC.below hb' LC.lt).cell 1 rfl⟩, ⟨(LB.below hb' LB.lt).cell 0 rfl, (LB.below hb' LB.lt).cell 1 rfl, (LB.below hb' LB.lt).cell 2 rfl, (LB.below hb' LB.lt).cell 3 rfl⟩⟩
    go_upto_region 10 with fail
    have bA : Below wz8_5.heap.size wz8_5 wz8_5.drew := Below.drew (Below.refl _ _)
    refine wp_region_noPanic ?_
    refine wp_region_held_drew (S := fun w' => Below wz8_5.heap.size wz8_5 w' ∧ (w'.cell? ⟨w1.heap.size, 0, none⟩ = some (.int .i64 n) ∧ w'.cell? ⟨w1.heap.size, 1, none⟩ = some (.int .i64 f)) ∧ (w'.cell? ⟨w1.heap.size + 1, 0, none⟩ = some (.string m) ∧ w'.cell? ⟨w1.heap.size + 1, 1, none⟩ = some (.int .i64 v) ∧ w'.cell? ⟨w1.heap.size + 1, 2, none⟩ = some (.string s) ∧ w'.cell? ⟨w1.heap.size + 1, 3, none⟩ = some (.slice aoB xs.length koB))) (by kernel_rfl) (unhide K _ bA) (fun hHeld => ?_)
    refine take_at (i := 0) (d := 77) (v := ?_) rfl rfl (by kernel_rfl) (by kernel_rfl) (by kernel_rfl) (fun _ _ _ h => h) (Or.inl ⟨by rfl, ?_⟩) (by assumption) ?_
    rotate_left
    · intro w hSw
      try dsimp only at hSw
      go_simp
      try with_reducible rfl
    simp only [Act.put, List.setIfInBounds_toArray, List.set_cons_zero, List.set_cons_succ]
    refine take_at (i := 1) (d := 78) (v := ?_) rfl rfl (by kernel_rfl) (by kernel_rfl) (by kernel_rfl) (fun _ _ _ h => h) (Or.inl ⟨by rfl, ?_⟩) (by assumption) ?_
    rotate_left
    · intro w hSw
      try dsimp only at hSw
      go_simp
      try with_reducible rfl
    simp only [Act.put, List.setIfInBounds_toArray, List.set_cons_zero, List.set_cons_succ]
    refine ready_at (i := 2) rfl (by kernel_rfl) (fun KK hKK => ?_)
    go_simp
    have hgo := bA
    refine (unhide IB _ _ _ ((unhide HE).below (Bwz8_5.trans (hgo.mono Bwz8_5.size))) (unhide RB _ hgo)).mono ?_
    rintro e wz10_1 ⟨rfl, bb⟩
    have bz1 : Below wz8_5.heap.size wz8_5 wz10_1 := bA.trans (bb.mono bA.size)
    clear RB
    clear bA hgo bb
    clear hHeld
    refine hKK.out _ _ (unhide K _ bz1) (fun hHeld => ?_)
    clear hKK KK
    refine take_at (i := 3) (d := 80) (v := ?_) rfl rfl (by kernel_rfl) (by kernel_rfl) (by kernel_rfl) (fun _ _ _ h => h) (Or.inl ⟨by rfl, ?_⟩) (by assumption) ?_
    rotate_left
    · intro w hSw
      try dsimp only at hSw
      go_simp
      try with_reducible rfl
    simp only [Act.put, List.setIfInBounds_toArray, List.set_cons_zero, List.set_cons_succ]
    refine take_at (i := 4) (d := 81) (v := ?_) rfl rfl (by kernel_rfl) (by kernel_rfl) (by kernel_rfl) (fun _ _ _ h => h) (Or.inl ⟨by rfl, ?_⟩) (by assumption) ?_
    rotate_left
    · intro w hSw
      try dsimp only at hSw
      go_simp
      try with_reducible rfl
    simp only [Act.put, List.setIfInBounds_toArray, List.set_cons_zero, List.set_cons_succ]
    refine take_at (i := 7) (d := 84) (v := ?_) rfl rfl (by kernel_rfl) (by kernel_rfl) (by kernel_rfl) (fun _ _ _ h => h) (Or.inl ⟨by rfl, ?_⟩) (by assumption) ?_
    rotate_left
    · intro w hSw
      try dsimp only at hSw
      go_simp
      try with_reducible rfl
    simp only [Act.put, List.setIfInBounds_toArray, List.set_cons_zero, List.set_cons_succ]
    refine take_at (i := 5) (d := 82) (v := ?_) rfl rfl (by kernel_rfl) (by kernel_rfl) (by kernel_rfl) (fun _ _ _ h => h) (Or.inl ⟨by rfl, ?_⟩) (by assumption) ?_
    rotate_left
    · intro w hSw
      try dsimp only at hSw
      go_simp
      try with_reducible rfl
    simp only [Act.put, List.setIfInBounds_toArray, List.set_cons_zero, List.set_cons_succ]
    refine take_at (i := 8) (d := 85) (v := ?_) rfl rfl (by kernel_rfl) (by kernel_rfl) (by kernel_rfl) (fun _ _ _ h => h) (Or.inl ⟨by rfl, ?_⟩) (by assumption) ?_
    rotate_left
    · intro w hSw
      try dsimp only at hSw
      go_simp
      try with_reducible rfl
    simp only [Act.put, List.setIfInBounds_toArray, List.set_cons_zero, List.set_cons_succ]
    refine take_at (i := 9) (d := 86) (v := ?_) rfl rfl (by kernel_rfl) (by kernel_rfl) (by kernel_rfl) (fun _ _ _ h => h) (Or.inl ⟨by rfl, ?_⟩) (by assumption) ?_
    rotate_left
    · intro w hSw
      try dsimp only at hSw
      go_simp
      try with_reducible rfl
    simp only [Act.put, List.setIfInBounds_toArray, List.set_cons_zero, List.set_cons_succ]
    refine ready_at (i := 6) rfl (by kernel_rfl) (fun KK hKK => ?_)
    go_simp
    have hgo := bz1
    refine (unhide VM _ ((unhide HE).below (Bwz8_5.trans (hgo.mono Bwz8_5.size)))).mono ?_
    rintro e wz10_2 ⟨rfl, bb⟩
    have bz2 : Below wz8_5.heap.size wz8_5 wz10_2 := bz1.trans (bb.mono bz1.size)
    clear bz1 hgo bb
    clear hHeld
    refine hKK.out _ _ (unhide K _ bz2) (fun hHeld => ?_)
    clear hKK KK
    refine take_at (i := 10) (d := 87) (v := ?_) rfl rfl (by kernel_rfl) (by kernel_rfl) (by kernel_rfl) (fun _ _ _ h => h) (Or.inl ⟨by rfl, ?_⟩) (by assumption) ?_
    rotate_left
    · intro w hSw
      try dsimp only at hSw
      go_simp
      try with_reducible rfl
    simp only [Act.put, List.setIfInBounds_toArray, List.set_cons_zero, List.set_cons_succ]
    refine take_at (i := 11) (d := 88) (v := ?_) rfl rfl (by kernel_rfl) (by kernel_rfl) (by kernel_rfl) (fun _ _ _ h => h) (Or.inl ⟨by rfl, ?_⟩) (by assumption) ?_
    rotate_left
    · intro w hSw
      try dsimp only at hSw
      go_simp
      try with_reducible rfl
    simp only [Act.put, List.setIfInBounds_toArray, List.set_cons_zero, List.set_cons_succ]
    refine take_at (i := 12) (d := 89) (v := ?_) rfl rfl (by kernel_rfl) (by kernel_rfl) (by kernel_rfl) (fun _ _ _ h => h) (Or.inl ⟨by rfl, ?_⟩) (by assumption) ?_
    rotate_left
    · intro w hSw
      try dsimp only at hSw
      go_simp
      try with_reducible rfl
    simp only [Act.put, List.setIfInBounds_toArray, List.set_cons_zero, List.set_cons_succ]
    refine take_at (i := 14) (d := 91) (v := ?_) rfl rfl (by kernel_rfl) (by kernel_rfl) (by kernel_rfl) (fun _ _ _ h => h) (Or.inl ⟨by rfl, ?_⟩) (by assumption) ?_
    rotate_left
    · intro w hSw
      try dsimp only at hSw
      go_simp
      try with_reducible rfl
    simp only [Act.put, List.setIfInBounds_toArray, List.set_cons_zero, List.set_cons_succ]
    refine take_at (i := 13) (d := 90) (v := ?_) rfl rfl (by kernel_rfl) (by kernel_rfl) (by kernel_rfl) (fun _ _ _ h => h) (Or.inl ⟨by rfl, ?_⟩) (by assumption) ?_
    rotate_left
    · intro w hSw
      try dsimp only at hSw
      go_simp
      try with_reducible rfl
    simp only [Act.put, List.setIfInBounds_toArray, List.set_cons_zero, List.set_cons_succ]
    refine take_at (i := 15) (d := 92) (v := ?_) rfl rfl (by kernel_rfl) (by kernel_rfl) (by kernel_rfl) (fun _ _ _ h => h) (Or.inl ⟨by rfl, ?_⟩) (by assumption) ?_
    rotate_left
    · intro w hSw
      try dsimp only at hSw
      go_simp
      try with_reducible rfl
    simp only [Act.put, List.setIfInBounds_toArray, List.set_cons_zero, List.set_cons_succ]
    refine take_at (i := 16) (d := 93) (v := ?_) rfl rfl (by kernel_rfl) (by kernel_rfl) (by kernel_rfl) (fun _ _ _ h => h) (Or.inl ⟨by rfl, ?_⟩) (by assumption) ?_
    rotate_left
    · intro w hSw
      try dsimp only at hSw
      go_simp
      try with_reducible rfl
    simp only [Act.put, List.setIfInBounds_toArray, List.set_cons_zero, List.set_cons_succ]
    refine ready_at (i := 17) rfl (by kernel_rfl) (fun KK hKK => ?_)
    go_simp
    have hgo := bz2
    refine (unhide XM _ ((unhide HE).below (Bwz8_5.trans (hgo.mono Bwz8_5.size)))).mono ?_
    rintro e wz10_3 ⟨rfl, bb⟩
    have bz3 : Below wz8_5.heap.size wz8_5 wz10_3 := bz2.trans (bb.mono bz2.size)
    clear bz2 hgo bb
    clear hHeld
    refine hKK.out _ _ (unhide K _ bz3) (fun hHeld => ?_)
    clear hKK KK
    refine take_at (i := 18) (d := 95) (v := ?_) rfl rfl (by kernel_rfl) (by kernel_rfl) (by kernel_rfl) (fun _ _ _ h => h) (Or.inl ⟨by rfl, ?_⟩) (by assumption) ?_
    rotate_left
    · intro w hSw
      try dsimp only at hSw
      go_simp
      try with_reducible rfl
    simp only [Act.put, List.setIfInBounds_toArray, List.set_cons_zero, List.set_cons_succ]
    refine take_at (i := 19) (d := 96) (v := ?_) rfl rfl (by kernel_rfl) (by kernel_rfl) (by kernel_rfl) (fun _ _ _ h => h) (Or.inl ⟨by rfl, ?_⟩) (by assumption) ?_
    rotate_left
    · intro w hSw
      try dsimp only at hSw
      go_simp
      try with_reducible rfl
    simp only [Act.put, List.setIfInBounds_toArray, List.set_cons_zero, List.set_cons_succ]
    refine take_at (i := 20) (d := 97) (v := ?_) rfl rfl (by kernel_rfl) (by kernel_rfl) (by kernel_rfl) (fun _ _ _ h => h) (Or.inl ⟨by rfl, ?_⟩) (by assumption) ?_
    rotate_left
    · intro w hSw
      try dsimp only at hSw
      go_simp
      try with_reducible rfl
    simp only [Act.put, List.setIfInBounds_toArray, List.set_cons_zero, List.set_cons_succ]
    refine take_at (i := 21) (d := 98) (v := ?_) rfl rfl (by kernel_rfl) (by kernel_rfl) (by kernel_rfl) (fun _ _ _ h => h) (Or.inl ⟨by rfl, ?_⟩) (by assumption) ?_
    rotate_left
    · intro w hSw
      try dsimp only at hSw
      go_simp
      try with_reducible rfl
    simp only [Act.put, List.setIfInBounds_toArray, List.set_cons_zero, List.set_cons_succ]
    refine take_at (i := 24) (d := 101) (v := ?_) rfl rfl (by kernel_rfl) (by kernel_rfl) (by kernel_rfl) (fun _ _ _ h => h) (Or.inl ⟨by rfl, ?_⟩) (by assumption) ?_
    rotate_left
    · intro w hSw
      try dsimp only at hSw
      go_simp
      try with_reducible rfl
    simp only [Act.put, List.setIfInBounds_toArray, List.set_cons_zero, List.set_cons_succ]
    refine take_at (i := 22) (d := 99) (v := ?_) rfl rfl (by kernel_rfl) (by kernel_rfl) (by kernel_rfl) (fun _ _ _ h => h) (Or.inl ⟨by rfl, ?_⟩) (by assumption) ?_
    rotate_left
    · intro w hSw
      try dsimp only at hSw
      go_simp
      try with_reducible rfl
    simp only [Act.put, List.setIfInBounds_toArray, List.set_cons_zero, List.set_cons_succ]
    refine take_at (i := 25) (d := 102) (v := ?_) rfl rfl (by kernel_rfl) (by kernel_rfl) (by kernel_rfl) (fun _ _ _ h => h) (Or.inl ⟨by rfl, ?_⟩) (by assumption) ?_
    rotate_left
    · intro w hSw
      try dsimp only at hSw
      go_simp
      try with_reducible rfl
    simp only [Act.put, List.setIfInBounds_toArray, List.set_cons_zero, List.set_cons_succ]
    refine take_at (i := 26) (d := 103) (v := ?_) rfl rfl (by kernel_rfl) (by kernel_rfl) (by kernel_rfl) (fun _ _ _ h => h) (Or.inl ⟨by rfl, ?_⟩) (by assumption) ?_
    rotate_left
    · intro w hSw
      try dsimp only at hSw
      go_simp
      try with_reducible rfl
    simp only [Act.put, List.setIfInBounds_toArray, List.set_cons_zero, List.set_cons_succ]
    refine ready_at (i := 23) rfl (by kernel_rfl) (fun KK hKK => ?_)
    go_simp
    have hgo := bz3
    refine (unhide HM _ ((unhide HE).below (Bwz8_5.trans (hgo.mono Bwz8_5.size)))).mono ?_
    rintro e wz10_4 ⟨rfl, bb⟩
    have bz4 : Below wz8_5.heap.size wz8_5 wz10_4 := bz3.trans (bb.mono bz3.size)
    clear bz3 hgo bb
    clear hHeld
    refine hKK.out _ _ (unhide K _ bz4) (fun hHeld => ?_)
    clear hKK KK
    refine ready_at (i := 27) rfl (by kernel_rfl) (fun KK hKK => ?_)
    go_simp
    have hgo := bz4
    refine (unhide HS _ ((unhide HE).below (Bwz8_5.trans (hgo.mono Bwz8_5.size)))).mono ?_
    rintro e wz10_5 ⟨rfl, bb⟩
    have bz5 : Below wz8_5.heap.size wz8_5 wz10_5 := bz4.trans (bb.mono bz4.size)
    clear bz4 hgo bb
    clear hHeld
    refine hKK.out _ _ (unhide K _ bz5) (fun hHeld => ?_)
    clear hKK KK
    refine take_at (i := 28) (d := 105) (v := ?_) rfl rfl (by kernel_rfl) (by kernel_rfl) (by kernel_rfl) (fun _ _ _ h => h) (Or.inl ⟨by rfl, ?_⟩) (by assumption) ?_
    rotate_left
    · intro w hSw
      try dsimp only at hSw
      go_simp
      try with_reducible rfl
    simp only [Act.put, List.setIfInBounds_toArray, List.set_cons_zero, List.set_cons_succ]
    refine take_at (i := 29) (d := 106) (v := ?_) rfl rfl (by kernel_rfl) (by kernel_rfl) (by kernel_rfl) (fun _ _ _ h => h) (Or.inl ⟨by rfl, ?_⟩) (by assumption) ?_
    rotate_left
    · intro w hSw
      try dsimp only at hSw
      go_simp
      try with_reducible rfl
    simp only [Act.put, List.setIfInBounds_toArray, List.set_cons_zero, List.set_cons_succ]
    refine take_at (i := 30) (d := 107) (v := ?_) rfl rfl (by kernel_rfl) (by kernel_rfl) (by kernel_rfl) (fun _ _ _ h => h) (Or.inl ⟨by rfl, ?_⟩) (by assumption) ?_
    rotate_left
    · intro w hSw
      try dsimp only at hSw
      go_simp
      try with_reducible rfl
    simp only [Act.put, List.setIfInBounds_toArray, List.set_cons_zero, List.set_cons_succ]
    refine take_at (i := 31) (d := 108) (v := ?_) rfl rfl (by kernel_rfl) (by kernel_rfl) (by kernel_rfl) (fun _ _ _ h => h) (Or.inl ⟨by rfl, ?_⟩) (by assumption) ?_
    rotate_left
    · intro w hSw
      try dsimp only at hSw
      go_simp
      try with_reducible rfl
    simp only [Act.put, List.setIfInBounds_toArray, List.set_cons_zero, List.set_cons_succ]
    clear hHeld
    refine wpAnyH_done (by kernel_rfl) ?_ _
    refine NoPanic.normal ?_
    have bb := bz5
    have Bwz10_5 := Bwz8_5.trans (bb.mono Bwz8_5.size)
    have swz10_5 := bb.size
    replace LC := LC.below bb LC.lt
    replace LB := LB.below bb LB.lt
    replace LD := LD.below bb LD.lt
    replace LQ := LQ.below bb LQ.lt
    replace LN := LN.below bb LN.lt
    replace oB := oB.below bb
    replace oQ := oQ.below bb
    replace oN := oN.below bb
    clear Bwz8_5
    clear bb bz5 K
    cases q1
    · have K : Hid (∀ w', Below wz10_5.heap.size wz10_5 w' → (fun w' => Below wz10_5.heap.size wz10_5 w' ∧ (w'.cell? ⟨w3.heap.size, 0, none⟩ = some (.int .i64 n') ∧ w'.cell? ⟨w3.heap.size, 1, none⟩ = some (.int .i64 f')) ∧ (w'.cell? ⟨w5.heap.size, 0, none⟩ = some (.string m1) ∧ w'.cell? ⟨w5.heap.size, 1, none⟩ = some (.int .i64 n1) ∧ w'.cell? ⟨w5.heap.size, 2, none⟩ = some (.string s1) ∧ w'.cell? ⟨w5.heap.size, 3, none⟩ = some (.slice aoN x1.length koN)) ∧ (w'.cell? ⟨w3.heap.size + 1, 0, none⟩ = some (.int .i64 v') ∧ w'.cell? ⟨w3.heap.size + 1, 1, none⟩ = some (.string s') ∧ w'.cell? ⟨w3.heap.size + 1, 2, none⟩ = some (.slice aoQ ys.length koQ))) w') := hide fun w' hb' => ⟨hb', ⟨(LD.below hb' LD.lt).cell 0 rfl, (LD.below hb' LD.lt).cell 1 rfl⟩, ⟨(LN.below hb' LN.lt).cell 0 rfl, (LN.below hb' LN.lt).cell 1 rfl, (LN.below hb' LN.lt).cell 2 rfl, (LN.below hb' LN.lt).cell 3 rfl⟩, ⟨(LQ.below hb' LQ.lt).cell 0 rfl, (LQ.below hb' LQ.lt).cell 1 rfl, (LQ.below hb' LQ.lt).cell 2 rfl⟩⟩
      go_upto_region 12 with fail
      have bA : Below wz10_5.heap.size wz10_5 wz10_5.drew := Below.drew (Below.refl _ _)
      refine wp_region_noPanic ?_
      refine wp_region_held_drew (S := fun w' => Below wz10_5.heap.size wz10_5 w' ∧ (w'.cell? ⟨w3.heap.size, 0, none⟩ = some (.int .i64 n') ∧ w'.cell? ⟨w3.heap.size, 1, none⟩ = some (.int .i64 f')) ∧ (w'.cell? ⟨w5.heap.size, 0, none⟩ = some (.string m1) ∧ w'.cell? ⟨w5.heap.size, 1, none⟩ = some (.int .i64 n1) ∧ w'.cell? ⟨w5.heap.size, 2, none⟩ = some (.string s1) ∧ w'.cell? ⟨w5.heap.size, 3, none⟩ = some (.slice aoN x1.length koN)) ∧ (w'.cell? ⟨w3.heap.size + 1, 0, none⟩ = some (.int .i64 v') ∧ w'.cell? ⟨w3.heap.size + 1, 1, none⟩ = some (.string s') ∧ w'.cell? ⟨w3.heap.size + 1, 2, none⟩ = some (.slice aoQ ys.length koQ))) (by kernel_rfl) (unhide K _ bA) (fun hHeld => ?_)
      refine take_at (i := 0) (d := 109) (v := ?_) rfl rfl (by kernel_rfl) (by kernel_rfl) (by kernel_rfl) (fun _ _ _ h => h) (Or.inl ⟨by rfl, ?_⟩) (by assumption) ?_
      rotate_left
      · intro w hSw
        try dsimp only at hSw
        go_simp
        try with_reducible rfl
      simp only [Act.put, List.setIfInBounds_toArray, List.set_cons_zero, List.set_cons_succ]
      refine take_at (i := 1) (d := 110) (v := ?_) rfl rfl (by kernel_rfl) (by kernel_rfl) (by kernel_rfl) (fun _ _ _ h => h) (Or.inl ⟨by rfl, ?_⟩) (by assumption) ?_
      rotate_left
      · intro w hSw
        try dsimp only at hSw
        go_simp
        try with_reducible rfl
      simp only [Act.put, List.setIfInBounds_toArray, List.set_cons_zero, List.set_cons_succ]
      refine take_at (i := 2) (d := 111) (v := ?_) rfl rfl (by kernel_rfl) (by kernel_rfl) (by kernel_rfl) (fun _ _ _ h => h) (Or.inl ⟨by rfl, ?_⟩) (by assumption) ?_
      rotate_left
      · intro w hSw
        try dsimp only at hSw
        go_simp
        try with_reducible rfl
      simp only [Act.put, List.setIfInBounds_toArray, List.set_cons_zero, List.set_cons_succ]
      refine take_at (i := 3) (d := 112) (v := undef) rfl rfl (by kernel_rfl) (by kernel_rfl) (by kernel_rfl) (fun _ _ _ h => h) (Or.inr ⟨by rfl, rfl⟩) (by assumption) ?_
      simp only [Act.put, List.setIfInBounds_toArray, List.set_cons_zero, List.set_cons_succ]
      refine take_at (i := 4) (d := 113) (v := undef) rfl rfl (by kernel_rfl) (by kernel_rfl) (by kernel_rfl) (fun _ _ _ h => h) (Or.inr ⟨by rfl, rfl⟩) (by assumption) ?_
      simp only [Act.put, List.setIfInBounds_toArray, List.set_cons_zero, List.set_cons_succ]
      refine take_at (i := 5) (d := 114) (v := undef) rfl rfl (by kernel_rfl) (by kernel_rfl) (by kernel_rfl) (fun _ _ _ h => h) (Or.inr ⟨by rfl, rfl⟩) (by assumption) ?_
      simp only [Act.put, List.setIfInBounds_toArray, List.set_cons_zero, List.set_cons_succ]
      refine take_at (i := 6) (d := 115) (v := undef) rfl rfl (by kernel_rfl) (by kernel_rfl) (by kernel_rfl) (fun _ _ _ h => h) (Or.inr ⟨by rfl, rfl⟩) (by assumption) ?_
      simp only [Act.put, List.setIfInBounds_toArray, List.set_cons_zero, List.set_cons_succ]
      refine take_at (i := 7) (d := 116) (v := undef) rfl rfl (by kernel_rfl) (by kernel_rfl) (by kernel_rfl) (fun _ _ _ h => h) (Or.inr ⟨by rfl, rfl⟩) (by assumption) ?_
      simp only [Act.put, List.setIfInBounds_toArray, List.set_cons_zero, List.set_cons_succ]
      refine take_at (i := 10) (d := 119) (v := undef) rfl rfl (by kernel_rfl) (by kernel_rfl) (by kernel_rfl) (fun _ _ _ h => h) (Or.inr ⟨by rfl, rfl⟩) (by assumption) ?_
      simp only [Act.put, List.setIfInBounds_toArray, List.set_cons_zero, List.set_cons_succ]
      refine take_at (i := 8) (d := 117) (v := undef) rfl rfl (by kernel_rfl) (by kernel_rfl) (by kernel_rfl) (fun _ _ _ h => h) (Or.inr ⟨by rfl, rfl⟩) (by assumption) ?_
      simp only [Act.put, List.setIfInBounds_toArray, List.set_cons_zero, List.set_cons_succ]
      refine take_at (i := 9) (d := 118) (v := undef) rfl rfl (by kernel_rfl) (by kernel_rfl) (by kernel_rfl) (fun _ _ _ h => h) (Or.inr ⟨by rfl, rfl⟩) (by assumption) ?_
      simp only [Act.put, List.setIfInBounds_toArray, List.set_cons_zero, List.set_cons_succ]
      refine take_at (i := 11) (d := 120) (v := undef) rfl rfl (by kernel_rfl) (by kernel_rfl) (by kernel_rfl) (fun _ _ _ h => h) (Or.inr ⟨by rfl, rfl⟩) (by assumption) ?_
      simp only [Act.put, List.setIfInBounds_toArray, List.set_cons_zero, List.set_cons_succ]
      refine take_at (i := 12) (d := 121) (v := undef) rfl rfl (by kernel_rfl) (by kernel_rfl) (by kernel_rfl) (fun _ _ _ h => h) (Or.inr ⟨by rfl, rfl⟩) (by assumption) ?_
      simp only [Act.put, List.setIfInBounds_toArray, List.set_cons_zero, List.set_cons_succ]
      refine take_at (i := 13) (d := 122) (v := undef) rfl rfl (by kernel_rfl) (by kernel_rfl) (by kernel_rfl) (fun _ _ _ h => h) (Or.inr ⟨by rfl, rfl⟩) (by assumption) ?_
      simp only [Act.put, List.setIfInBounds_toArray, List.set_cons_zero, List.set_cons_succ]
      refine take_at (i := 14) (d := 123) (v := undef) rfl rfl (by kernel_rfl) (by kernel_rfl) (by kernel_rfl) (fun _ _ _ h => h) (Or.inr ⟨by rfl, rfl⟩) (by assumption) ?_
      simp only [Act.put, List.setIfInBounds_toArray, List.set_cons_zero, List.set_cons_succ]
      refine take_at (i := 17) (d := 126) (v := undef) rfl rfl (by kernel_rfl) (by kernel_rfl) (by kernel_rfl) (fun _ _ _ h => h) (Or.inr ⟨by rfl, rfl⟩) (by assumption) ?_
      simp only [Act.put, List.setIfInBounds_toArray, List.set_cons_zero, List.set_cons_succ]
      refine take_at (i := 15) (d := 124) (v := undef) rfl rfl (by kernel_rfl) (by kernel_rfl) (by kernel_rfl) (fun _ _ _ h => h) (Or.inr ⟨by rfl, rfl⟩) (by assumption) ?_
      simp only [Act.put, List.setIfInBounds_toArray, List.set_cons_zero, List.set_cons_succ]
      refine take_at (i := 18) (d := 127) (v := undef) rfl rfl (by kernel_rfl) (by kernel_rfl) (by kernel_rfl) (fun _ _ _ h => h) (Or.inr ⟨by rfl, rfl⟩) (by assumption) ?_
      simp only [Act.put, List.setIfInBounds_toArray, List.set_cons_zero, List.set_cons_succ]
      refine take_at (i := 16) (d := 125) (v := undef) rfl rfl (by kernel_rfl) (by kernel_rfl) (by kernel_rfl) (fun _ _ _ h => h) (Or.inr ⟨by rfl, rfl⟩) (by assumption) ?_
      simp only [Act.put, List.setIfInBounds_toArray, List.set_cons_zero, List.set_cons_succ]
      refine take_at (i := 19) (d := 128) (v := undef) rfl rfl (by kernel_rfl) (by kernel_rfl) (by kernel_rfl) (fun _ _ _ h => h) (Or.inr ⟨by rfl, rfl⟩) (by assumption) ?_
      simp only [Act.put, List.setIfInBounds_toArray, List.set_cons_zero, List.set_cons_succ]
      refine take_at (i := 20) (d := 129) (v := undef) rfl rfl (by kernel_rfl) (by kernel_rfl) (by kernel_rfl) (fun _ _ _ h => h) (Or.inr ⟨by rfl, rfl⟩) (by assumption) ?_
      simp only [Act.put, List.setIfInBounds_toArray, List.set_cons_zero, List.set_cons_succ]
      refine take_at (i := 21) (d := 130) (v := ?_) rfl rfl (by kernel_rfl) (by kernel_rfl) (by kernel_rfl) (fun _ _ _ h => h) (Or.inl ⟨by rfl, ?_⟩) (by assumption) ?_
      rotate_left
      · intro w hSw
        try dsimp only at hSw
        go_simp
        try with_reducible rfl
      simp only [Act.put, List.setIfInBounds_toArray, List.set_cons_zero, List.set_cons_succ]
      refine take_at (i := 22) (d := 2) (v := ?_) rfl rfl (by kernel_rfl) (by kernel_rfl) (by kernel_rfl) (fun _ _ _ h => h) (Or.inl ⟨by rfl, ?_⟩) (by assumption) ?_
      rotate_left
      · intro w hSw
        try dsimp only at hSw
        go_simp
        try with_reducible rfl
      simp only [Act.put, List.setIfInBounds_toArray, List.set_cons_zero, List.set_cons_succ]
      clear hHeld
      refine wpAnyH_done (by kernel_rfl) ?_ _
      refine NoPanic.normal ?_
      obtain ⟨wd12, hwd⟩ : ∃ y, wz10_5.drew = y := ⟨_, rfl⟩
      rw [hwd] at bA ⊢
      clear hwd
      have bb := bA
      have Bwd12 := Bwz10_5.trans (bb.mono Bwz10_5.size)
      have swd12 := bb.size
      replace LC := LC.below bb LC.lt
      replace LB := LB.below bb LB.lt
      replace LD := LD.below bb LD.lt
      replace LQ := LQ.below bb LQ.lt
      replace LN := LN.below bb LN.lt
      replace oB := oB.below bb
      replace oQ := oQ.below bb
      replace oN := oN.below bb
      clear Bwz10_5
      clear bb bA K
      go_wp2
      go_ret
      exact ⟨rfl, Bwd12⟩
    · obtain ⟨hb1, hvw1, hup1⟩ := unhide HN rfl
      have IN := hide fun a k w e h => implBlockOk n' f' m1 n1 s1 a k x1 w (by omega) (by omega) e h
      rw [hb1] at IN
      have VN := hide fun w e => implViewOf m1 w (by omega) e
      rw [hvw1] at VN
      have UN := hide fun w e => implUpOf m1 w (by omega) e
      rw [hup1] at UN
      clear hb1 hvw1 hup1 HN
      have hvv : (view == view) = true := by simp
      have hss : (s'.toList == s'.toList) = true := by simp
      have RN := hide fun w' (hb' : Below wz10_5.heap.size wz10_5 w') => (oN.below hb').ri (by omega)
      have K : Hid (∀ w', Below wz10_5.heap.size wz10_5 w' → (fun w' => Below wz10_5.heap.size wz10_5 w' ∧ (w'.cell? ⟨w3.heap.size, 0, none⟩ = some (.int .i64 n') ∧ w'.cell? ⟨w3.heap.size, 1, none⟩ = some (.int .i64 f')) ∧ (w'.cell? ⟨w5.heap.size, 0, none⟩ = some (.string m1) ∧ w'.cell? ⟨w5.heap.size, 1, none⟩ = some (.int .i64 n1) ∧ w'.cell? ⟨w5.heap.size, 2, none⟩ = some (.string s1) ∧ w'.cell? ⟨w5.heap.size, 3, none⟩ = some (.slice aoN x1.length koN)) ∧ (w'.cell? ⟨w3.heap.size + 1, 0, none⟩ = some (.int .i64 v') ∧ w'.cell? ⟨w3.heap.size + 1, 1, none⟩ = some (.string s') ∧ w'.cell? ⟨w3.heap.size + 1, 2, none⟩ = some (.slice aoQ ys.length koQ))) w') := hide fun w' hb' => ⟨hb', ⟨(LD.below hb' LD.lt).cell 0 rfl, (LD.below hb' LD.lt).cell 1 rfl⟩, ⟨(LN.below hb' LN.lt).cell 0 rfl, (LN.below hb' LN.lt).cell 1 rfl, (LN.below hb' LN.lt).cell 2 rfl, (LN.below hb' LN.lt).cell 3 rfl⟩, ⟨(LQ.below hb' LQ.lt).cell 0 rfl, (LQ.below hb' LQ.lt).cell 1 rfl, (LQ.below hb' LQ.lt).cell 2 rfl⟩⟩
      go_upto_region 12 with fail
      have bA : Below wz10_5.heap.size wz10_5 wz10_5.drew := Below.drew (Below.refl _ _)
      refine wp_region_noPanic ?_
      refine wp_region_held_drew (S := fun w' => Below wz10_5.heap.size wz10_5 w' ∧ (w'.cell? ⟨w3.heap.size, 0, none⟩ = some (.int .i64 n') ∧ w'.cell? ⟨w3.heap.size, 1, none⟩ = some (.int .i64 f')) ∧ (w'.cell? ⟨w5.heap.size, 0, none⟩ = some (.string m1) ∧ w'.cell? ⟨w5.heap.size, 1, none⟩ = some (.int .i64 n1) ∧ w'.cell? ⟨w5.heap.size, 2, none⟩ = some (.string s1) ∧ w'.cell? ⟨w5.heap.size, 3, none⟩ = some (.slice aoN x1.length koN)) ∧ (w'.cell? ⟨w3.heap.size + 1, 0, none⟩ = some (.int .i64 v') ∧ w'.cell? ⟨w3.heap.size + 1, 1, none⟩ = some (.string s') ∧ w'.cell? ⟨w3.heap.size + 1, 2, none⟩ = some (.slice aoQ ys.length koQ))) (by kernel_rfl) (unhide K _ bA) (fun hHeld => ?_)
      refine take_at (i := 0) (d := 109) (v := ?_) rfl rfl (by kernel_rfl) (by kernel_rfl) (by kernel_rfl) (fun _ _ _ h => h) (Or.inl ⟨by rfl, ?_⟩) (by assumption) ?_
      rotate_left
      · intro w hSw
        try dsimp only at hSw
        go_simp
        try with_reducible rfl
      simp only [Act.put, List.setIfInBounds_toArray, List.set_cons_zero, List.set_cons_succ]
      refine take_at (i := 1) (d := 110) (v := ?_) rfl rfl (by kernel_rfl) (by kernel_rfl) (by kernel_rfl) (fun _ _ _ h => h) (Or.inl ⟨by rfl, ?_⟩) (by assumption) ?_
      rotate_left
      · intro w hSw
        try dsimp only at hSw
        go_simp
        try with_reducible rfl
      simp only [Act.put, List.setIfInBounds_toArray, List.set_cons_zero, List.set_cons_succ]
      refine take_at (i := 2) (d := 111) (v := ?_) rfl rfl (by kernel_rfl) (by kernel_rfl) (by kernel_rfl) (fun _ _ _ h => h) (Or.inl ⟨by rfl, ?_⟩) (by assumption) ?_
      rotate_left
      · intro w hSw
        try dsimp only at hSw
        go_simp
        try with_reducible rfl
      simp only [Act.put, List.setIfInBounds_toArray, List.set_cons_zero, List.set_cons_succ]
      refine take_at (i := 3) (d := 112) (v := ?_) rfl rfl (by kernel_rfl) (by kernel_rfl) (by kernel_rfl) (fun _ _ _ h => h) (Or.inl ⟨by rfl, ?_⟩) (by assumption) ?_
      rotate_left
      · intro w hSw
        try dsimp only at hSw
        go_simp
        try with_reducible rfl
      simp only [Act.put, List.setIfInBounds_toArray, List.set_cons_zero, List.set_cons_succ]
      refine take_at (i := 4) (d := 113) (v := ?_) rfl rfl (by kernel_rfl) (by kernel_rfl) (by kernel_rfl) (fun _ _ _ h => h) (Or.inl ⟨by rfl, ?_⟩) (by assumption) ?_
      rotate_left
      · intro w hSw
        try dsimp only at hSw
        go_simp
        try with_reducible rfl
      simp only [Act.put, List.setIfInBounds_toArray, List.set_cons_zero, List.set_cons_succ]
      refine ready_at (i := 5) rfl (by kernel_rfl) (fun KK hKK => ?_)
      go_simp
      have hgo := bA
      refine (unhide IN _ _ _ ((unhide HE).below (Bwz10_5.trans (hgo.mono Bwz10_5.size))) (unhide RN _ hgo)).mono ?_
      rintro e wz12_1 ⟨rfl, bb⟩
      have bz1 : Below wz10_5.heap.size wz10_5 wz12_1 := bA.trans (bb.mono bA.size)
      clear bA hgo bb
      clear hHeld
      refine hKK.out _ _ (unhide K _ bz1) (fun hHeld => ?_)
      clear hKK KK
      refine take_at (i := 6) (d := 115) (v := ?_) rfl rfl (by kernel_rfl) (by kernel_rfl) (by kernel_rfl) (fun _ _ _ h => h) (Or.inl ⟨by rfl, ?_⟩) (by assumption) ?_
      rotate_left
      · intro w hSw
        try dsimp only at hSw
        go_simp
        try with_reducible rfl
      simp only [Act.put, List.setIfInBounds_toArray, List.set_cons_zero, List.set_cons_succ]
      refine take_at (i := 7) (d := 116) (v := ?_) rfl rfl (by kernel_rfl) (by kernel_rfl) (by kernel_rfl) (fun _ _ _ h => h) (Or.inl ⟨by rfl, ?_⟩) (by assumption) ?_
      rotate_left
      · intro w hSw
        try dsimp only at hSw
        go_simp
        try with_reducible rfl
      simp only [Act.put, List.setIfInBounds_toArray, List.set_cons_zero, List.set_cons_succ]
      refine take_at (i := 10) (d := 119) (v := ?_) rfl rfl (by kernel_rfl) (by kernel_rfl) (by kernel_rfl) (fun _ _ _ h => h) (Or.inl ⟨by rfl, ?_⟩) (by assumption) ?_
      rotate_left
      · intro w hSw
        try dsimp only at hSw
        go_simp
        try with_reducible rfl
      simp only [Act.put, List.setIfInBounds_toArray, List.set_cons_zero, List.set_cons_succ]
      refine take_at (i := 8) (d := 117) (v := ?_) rfl rfl (by kernel_rfl) (by kernel_rfl) (by kernel_rfl) (fun _ _ _ h => h) (Or.inl ⟨by rfl, ?_⟩) (by assumption) ?_
      rotate_left
      · intro w hSw
        try dsimp only at hSw
        go_simp
        try with_reducible rfl
      simp only [Act.put, List.setIfInBounds_toArray, List.set_cons_zero, List.set_cons_succ]
      refine ready_at (i := 9) rfl (by kernel_rfl) (fun KK hKK => ?_)
      go_simp
      have hgo := bz1
      refine (unhide VN _ ((unhide HE).below (Bwz10_5.trans (hgo.mono Bwz10_5.size)))).mono ?_
      rintro e wz12_2 ⟨rfl, bb⟩
      have bz2 : Below wz10_5.heap.size wz10_5 wz12_2 := bz1.trans (bb.mono bz1.size)
      clear bz1 hgo bb
      clear hHeld
      refine hKK.out _ _ (unhide K _ bz2) (fun hHeld => ?_)
      clear hKK KK
      refine take_at (i := 11) (d := 120) (v := ?_) rfl rfl (by kernel_rfl) (by kernel_rfl) (by kernel_rfl) (fun _ _ _ h => h) (Or.inl ⟨by rfl, ?_⟩) (by assumption) ?_
      rotate_left
      · intro w hSw
        try dsimp only at hSw
        go_simp
        try with_reducible rfl
      simp only [Act.put, List.setIfInBounds_toArray, List.set_cons_zero, List.set_cons_succ]
      refine take_at (i := 12) (d := 121) (v := ?_) rfl rfl (by kernel_rfl) (by kernel_rfl) (by kernel_rfl) (fun _ _ _ h => h) (Or.inl ⟨by rfl, ?_⟩) (by assumption) ?_
      rotate_left
      · intro w hSw
        try dsimp only at hSw
        go_simp
        try with_reducible rfl
      simp only [Act.put, List.setIfInBounds_toArray, List.set_cons_zero, List.set_cons_succ]
      refine take_at (i := 13) (d := 122) (v := ?_) rfl rfl (by kernel_rfl) (by kernel_rfl) (by kernel_rfl) (fun _ _ _ h => h) (Or.inl ⟨by rfl, ?_⟩) (by assumption) ?_
      rotate_left
      · intro w hSw
        try dsimp only at hSw
        go_simp
        try with_reducible rfl
      simp only [Act.put, List.setIfInBounds_toArray, List.set_cons_zero, List.set_cons_succ]
      refine take_at (i := 14) (d := 123) (v := ?_) rfl rfl (by kernel_rfl) (by kernel_rfl) (by kernel_rfl) (fun _ _ _ h => h) (Or.inl ⟨by rfl, ?_⟩) (by assumption) ?_
      rotate_left
      · intro w hSw
        try dsimp only at hSw
        go_simp
        try with_reducible rfl
      simp only [Act.put, List.setIfInBounds_toArray, List.set_cons_zero, List.set_cons_succ]
      refine take_at (i := 17) (d := 126) (v := ?_) rfl rfl (by kernel_rfl) (by kernel_rfl) (by kernel_rfl) (fun _ _ _ h => h) (Or.inl ⟨by rfl, ?_⟩) (by assumption) ?_
      rotate_left
      · intro w hSw
        try dsimp only at hSw
        go_simp
        try with_reducible rfl
      simp only [Act.put, List.setIfInBounds_toArray, List.set_cons_zero, List.set_cons_succ]
      refine take_at (i := 15) (d := 124) (v := ?_) rfl rfl (by kernel_rfl) (by kernel_rfl) (by kernel_rfl) (fun _ _ _ h => h) (Or.inl ⟨by rfl, ?_⟩) (by assumption) ?_
      rotate_left
      · intro w hSw
        try dsimp only at hSw
        go_simp
        try with_reducible rfl
      simp only [Act.put, List.setIfInBounds_toArray, List.set_cons_zero, List.set_cons_succ]
      refine take_at (i := 18) (d := 127) (v := ?_) rfl rfl (by kernel_rfl) (by kernel_rfl) (by kernel_rfl) (fun _ _ _ h => h) (Or.inl ⟨by rfl, ?_⟩) (by assumption) ?_
      rotate_left
      · intro w hSw
        try dsimp only at hSw
        go_simp
        try with_reducible rfl
      simp only [Act.put, List.setIfInBounds_toArray, List.set_cons_zero, List.set_cons_succ]
      refine ready_at (i := 16) rfl (by kernel_rfl) (fun KK hKK => ?_)
      go_simp
      have hgo := bz2
      refine (unhide UN _ ((unhide HE).below (Bwz10_5.trans (hgo.mono Bwz10_5.size)))).mono ?_
      rintro e wz12_3 ⟨rfl, bb⟩
      have bz3 : Below wz10_5.heap.size wz10_5 wz12_3 := bz2.trans (bb.mono bz2.size)
      clear RN
      clear bz2 hgo bb
      clear hHeld
      refine hKK.out _ _ (unhide K _ bz3) (fun hHeld => ?_)
      clear hKK KK
      refine take_at (i := 19) (d := 128) (v := ?_) rfl rfl (by kernel_rfl) (by kernel_rfl) (by kernel_rfl) (fun _ _ _ h => h) (Or.inl ⟨by rfl, ?_⟩) (by assumption) ?_
      rotate_left
      · intro w hSw
        try dsimp only at hSw
        go_simp
        try with_reducible rfl
      simp only [Act.put, List.setIfInBounds_toArray, List.set_cons_zero, List.set_cons_succ]
      refine take_at (i := 20) (d := 129) (v := ?_) rfl rfl (by kernel_rfl) (by kernel_rfl) (by kernel_rfl) (fun _ _ _ h => h) (Or.inl ⟨by rfl, ?_⟩) (by assumption) ?_
      rotate_left
      · intro w hSw
        try dsimp only at hSw
        go_simp
        try with_reducible rfl
      simp only [Act.put, List.setIfInBounds_toArray, List.set_cons_zero, List.set_cons_succ]
      refine take_at (i := 21) (d := 130) (v := ?_) rfl rfl (by kernel_rfl) (by kernel_rfl) (by kernel_rfl) (fun _ _ _ h => h) (Or.inl ⟨by rfl, ?_⟩) (by assumption) ?_
      rotate_left
      · intro w hSw
        try dsimp only at hSw
        go_simp
        try with_reducible rfl
      simp only [Act.put, List.setIfInBounds_toArray, List.set_cons_zero, List.set_cons_succ]
      refine take_at (i := 22) (d := 2) (v := ?_) rfl rfl (by kernel_rfl) (by kernel_rfl) (by kernel_rfl) (fun _ _ _ h => h) (Or.inl ⟨by rfl, ?_⟩) (by assumption) ?_
      rotate_left
      · intro w hSw
        try dsimp only at hSw
        go_simp
        try with_reducible rfl
      simp only [Act.put, List.setIfInBounds_toArray, List.set_cons_zero, List.set_cons_succ]
      clear hHeld
      refine wpAnyH_done (by kernel_rfl) ?_ _
      refine NoPanic.normal ?_
      have bb := bz3
      have Bwz12_3 := Bwz10_5.trans (bb.mono Bwz10_5.size)
      have swz12_3 := bb.size
      replace LC := LC.below bb LC.lt
      replace LB := LB.below bb LB.lt
      replace LD := LD.below bb LD.lt
      replace LQ := LQ.below bb LQ.lt
      replace LN := LN.below bb LN.lt
      replace oB := oB.below bb
      replace oQ := oQ.below bb
      replace oN := oN.below bb
      clear Bwz10_5
      clear bb bz3 K
      go_wp2
      go_ret
      exact ⟨rfl, Bwz12_3⟩
end Go.Proofs.YtggmgfkmbgcooaaGreatDoor
