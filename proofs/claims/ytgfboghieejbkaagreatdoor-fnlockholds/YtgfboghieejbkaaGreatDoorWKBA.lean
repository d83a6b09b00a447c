/- The walk of laws.FnLockHolds. -/
import Derived.Test.YtgfboghieejbkaaGreatDoorWKAD
import Derived.Test.YtgfboghieejbkaaGreatDoorWKAY
import Derived.Test.YtgfboghieejbkaaGreatDoorWKAS
import Derived.Test.YtgfboghieejbkaaGreatDoorWKAZ
import Derived.Deep.RegionHeld3
import Derived.Deep.DeepCutAuto
namespace Go.Proofs.YtgfboghieejbkaaGreatDoor
open Go.RowKit
set_option linter.unusedSectionVars false
variable [∀ (a b c d : Int), Decidable (Ok4 a b c d)]
variable [∀ (a b c d : Nat), Decidable (okN a b c d)]
variable [∀ (last : Int) (s : St), Decidable (GoodSt last s)]
variable [∀ (x : T4), Decidable (OkT x)]
variable [∀ (n : Int) (s : List Int), Decidable (OkL n s)]
variable [∀ (n f : Int), Decidable (COk n f)]
variable [∀ (ts : List T4), Decidable (AllOk ts)]

set_option maxHeartbeats 64000000 in
set_option maxRecDepth 100000 in
theorem fnLockHolds_short (ao : Option Addr) (ca : Nat) (zs : List Int) (w : World) (h : DCode w ao zs) (hE : Env w) :
    Calls Tryz.prog 5 #[.slice ao zs.length ca] w fun e w' => e = .returned (.bool true) ∧ Below w.heap.size w w' := by
  have hz := h.len
  have BG := hide fun w => big_any ao zs.length ca w (by omega)
  rw [decide_eq_false (show ¬ 1048576 < zs.length by omega)] at BG
  have D1 := hide fun w' (hb : Below w.heap.size w w') => drawMayVote ao ca zs w' (h.below hb (Nat.le_refl _))
  have HE := hide fun w' (hb : Below w.heap.size w w') => hE.below hb
  clear h hE
  generalize zs.length = zl at *
  go_enter Tryz.func5, Tryz.ntmps5
  have Bw : Below w.heap.size w w := Below.refl _ _
  go_wp2_with fail
  refine (unhide BG _).mono ?_
  rintro _ w1 ⟨rfl, bb⟩
  have Bw1 := Bw.trans (bb.mono Bw.size)
  have sw1 := bb.size
  clear Bw
  clear bb
  clear BG
  go_wp2_with fail
  refine (unhide D1 _ Bw1).mono ?_
  rintro _ w2 ⟨n, f, vo, lo, v, s, uO, d, xs, m, v', s', uP, ys, rfl, hn, hs, hd, hl, hm, ⟨hv0, hv1⟩, hs', hl', O, P, bb⟩
  have Bw2 := Bw1.trans (bb.mono Bw1.size)
  have sw2 := bb.size
  clear Bw1
  clear bb
  clear D1
  have tO := World.ownsRow.lt O
  obtain ⟨aO, kO, rfl⟩ := O.form
  have tP := World.ownsRow.lt P
  obtain ⟨aP, kP, rfl⟩ := P.form
  go_upto_region 4 with fail
  obtain ⟨w3, hw3⟩ : ∃ y, (((w2.alloc (.cells #[.int .i64 n, .int .i64 f] 32)).alloc (.cells #[.int .i64 vo, .int .i64 lo, .int .i64 v, .string s, .slice aO xs.length kO, .string d] 60)).alloc (.cells #[.string m, .int .i64 v', .string s', .slice aP ys.length kP] 65)) = y := ⟨_, rfl⟩
  have bb : Below w2.heap.size w2 w3 := hw3 ▸ (((Below.refl _ _).alloc (Nat.le_refl _) _).alloc (by simp) _).alloc (by simp; omega) _
  have LC : Loc w3 (w2.heap.size) #[.int .i64 n, .int .i64 f] := hw3 ▸ ((loc_at (w2) _ _ rfl).alloc _).alloc _
  have LS : Loc w3 (w2.heap.size + 1) #[.int .i64 vo, .int .i64 lo, .int .i64 v, .string s, .slice aO xs.length kO, .string d] := hw3 ▸ (loc_at (w2.alloc _) _ _ (by simp)).alloc _
  have LB : Loc w3 (w2.heap.size + 1 + 1) #[.string m, .int .i64 v', .string s', .slice aP ys.length kP] := hw3 ▸ loc_at ((w2.alloc _).alloc _) _ _ (by simp)
  have zw3 : w2.heap.size + 1 + 1 + 1 ≤ w3.heap.size := by rw [← hw3]; simp
  rw [hw3]
  clear hw3
  have Bw3 := Bw2.trans (bb.mono Bw2.size)
  have sw3 := bb.size
  replace O := O.below bb
  replace P := P.below bb
  clear Bw2
  clear bb
  have IM := hide fun z l w' (h : RI w' (.slice aO xs.length kO) xs) (h' : RI w' (.slice aP ys.length kP) ys) (e : Env w') => implMayVote n f z l v s aO kO xs d m v' s' aP kP ys w' (by omega) (by omega) (by omega) (by omega) e h h'
  have SM := hide fun w' (h : RI w' (.slice aO xs.length kO) xs) (h' : RI w' (.slice aP ys.length kP) ys) => specMayVote n f vo lo v s aO kO xs d m v' s' aP kP ys w' (by omega) (by omega) (by omega) (by omega) h h'
  have I1 := hide (unhide IM vo lo)
  have I2 := hide (unhide IM vo (v' + 1))
  have I3 := hide (unhide IM (viewAns m) lo)
  rw [may_lock] at I2
  rw [may_again] at I3
  clear IM
  have VO := hide fun w' (e : Env w') => implViewOf m w' (by omega) e
  generalize mayB n f vo lo v s xs d m v' s' ys = g at *
  generalize viewAns m = vw at *
  have eg : (g != g) = false := by simp
  have hw1 : IntKind.i64.wrap (v' + 1) = v' + 1 := by rw [IntKind.wrap_i64]; omega
  have cLC0 := LC.cell 0 rfl
  have cLC1 := LC.cell 1 rfl
  have cLS0 := LS.cell 0 rfl
  have cLS1 := LS.cell 1 rfl
  have cLS2 := LS.cell 2 rfl
  have cLS3 := LS.cell 3 rfl
  have cLS4 := LS.cell 4 rfl
  have cLS5 := LS.cell 5 rfl
  have cLB0 := LB.cell 0 rfl
  have cLB1 := LB.cell 1 rfl
  have cLB2 := LB.cell 2 rfl
  have cLB3 := LB.cell 3 rfl
  go_wp2_with fail
  refine (unhide I1 _ (O.ri (by omega)) (P.ri (by omega)) (unhide HE _ Bw3)).mono ?_
  rintro _ w4 ⟨rfl, bb⟩
  clear cLC0 cLC1 cLS0 cLS1 cLS2 cLS3 cLS4 cLS5 cLB0 cLB1 cLB2 cLB3
  have Bw4 := Bw3.trans (bb.mono Bw3.size)
  have sw4 := bb.size
  replace LC := LC.below bb LC.lt
  replace LS := LS.below bb LS.lt
  replace LB := LB.below bb LB.lt
  replace O := O.below bb
  replace P := P.below bb
  clear Bw3
  clear bb
  have cLC0 := LC.cell 0 rfl
  have cLC1 := LC.cell 1 rfl
  have cLS0 := LS.cell 0 rfl
  have cLS1 := LS.cell 1 rfl
  have cLS2 := LS.cell 2 rfl
  have cLS3 := LS.cell 3 rfl
  have cLS4 := LS.cell 4 rfl
  have cLS5 := LS.cell 5 rfl
  have cLB0 := LB.cell 0 rfl
  have cLB1 := LB.cell 1 rfl
  have cLB2 := LB.cell 2 rfl
  have cLB3 := LB.cell 3 rfl
  go_wp2_with fail
  refine (unhide SM _ (O.ri (by omega)) (P.ri (by omega))).mono ?_
  rintro _ w5 ⟨rfl, bb⟩
  clear cLC0 cLC1 cLS0 cLS1 cLS2 cLS3 cLS4 cLS5 cLB0 cLB1 cLB2 cLB3
  have Bw5 := Bw4.trans (bb.mono Bw4.size)
  have sw5 := bb.size
  replace LC := LC.below bb LC.lt
  replace LS := LS.below bb LS.lt
  replace LB := LB.below bb LB.lt
  replace O := O.below bb
  replace P := P.below bb
  clear Bw4
  clear bb
  clear I1 SM
  have cLS0 := LS.cell 0 rfl
  have cLS1 := LS.cell 1 rfl
  have cLS2 := LS.cell 2 rfl
  have cLS3 := LS.cell 3 rfl
  have cLS4 := LS.cell 4 rfl
  have cLS5 := LS.cell 5 rfl
  go_upto_region 8 with fail
  clear cLS0 cLS1 cLS2 cLS3 cLS4 cLS5
  obtain ⟨w6, hw6⟩ : ∃ y, (w5.alloc (.cells #[.int .i64 vo, .int .i64 lo, .int .i64 v, .string s, .slice aO xs.length kO, .string d] 60)) = y := ⟨_, rfl⟩
  have bb : Below w5.heap.size w5 w6 := hw6 ▸ (Below.refl _ _).alloc (Nat.le_refl _) _
  have T : Loc w6 (w5.heap.size) #[.int .i64 vo, .int .i64 lo, .int .i64 v, .string s, .slice aO xs.length kO, .string d] := hw6 ▸ loc_at (w5) _ _ rfl
  have zw6 : w5.heap.size + 1 ≤ w6.heap.size := by rw [← hw6]; simp
  rw [hw6]
  clear hw6
  have Bw6 := Bw5.trans (bb.mono Bw5.size)
  have sw6 := bb.size
  replace LC := LC.below bb LC.lt
  replace LS := LS.below bb LS.lt
  replace LB := LB.below bb LB.lt
  replace O := O.below bb
  replace P := P.below bb
  clear Bw5
  clear bb
  have cT0 := T.cell 0 rfl
  have cT1 := T.cell 1 rfl
  have cT2 := T.cell 2 rfl
  have cT3 := T.cell 3 rfl
  have cT4 := T.cell 4 rfl
  have cT5 := T.cell 5 rfl
  have cLB0 := LB.cell 0 rfl
  have cLB1 := LB.cell 1 rfl
  have cLB2 := LB.cell 2 rfl
  have cLB3 := LB.cell 3 rfl
  have fT := T.frozen
  go_upto_region 9 with fail
  clear cT0 cT1 cT2 cT3 cT4 cT5 cLB0 cLB1 cLB2 cLB3
  clear fT
  obtain ⟨w7, hw7⟩ : ∃ y, (w6.setCell ⟨w5.heap.size, 1, none⟩ (.int .i64 (v' + 1))) = y := ⟨_, rfl⟩
  have kN : Kp w6 w7 (fun k => k = w5.heap.size) := hw7 ▸ set_kp _ _ _ _
  replace T : Loc w7 (w5.heap.size) #[.int .i64 vo, .int .i64 (v' + 1), .int .i64 v, .string s, .slice aO xs.length kO, .string d] := hw7 ▸ (T.set 1 _ rfl)
  replace LC := LC.kp kN (by omega)
  replace LS := LS.kp kN (by omega)
  replace LB := LB.kp kN (by omega)
  replace O := O.kp kN (fun j hj e => by have := tO j hj; omega)
  replace P := P.kp kN (fun j hj e => by have := tP j hj; omega)
  have Bw7 := Below.kp Bw6 kN Bw6.size (fun k hk => by omega)
  have sw7 := kN.size
  rw [hw7]
  clear hw7 kN Bw6
  have cLS0 := LS.cell 0 rfl
  have cLS1 := LS.cell 1 rfl
  have cLS2 := LS.cell 2 rfl
  have cLS3 := LS.cell 3 rfl
  have cLS4 := LS.cell 4 rfl
  have cLS5 := LS.cell 5 rfl
  go_upto_region 10 with fail
  clear cLS0 cLS1 cLS2 cLS3 cLS4 cLS5
  obtain ⟨w8, hw8⟩ : ∃ y, (w7.alloc (.cells #[.int .i64 vo, .int .i64 lo, .int .i64 v, .string s, .slice aO xs.length kO, .string d] 60)) = y := ⟨_, rfl⟩
  have bb : Below w7.heap.size w7 w8 := hw8 ▸ (Below.refl _ _).alloc (Nat.le_refl _) _
  have U : Loc w8 (w7.heap.size) #[.int .i64 vo, .int .i64 lo, .int .i64 v, .string s, .slice aO xs.length kO, .string d] := hw8 ▸ loc_at (w7) _ _ rfl
  have zw8 : w7.heap.size + 1 ≤ w8.heap.size := by rw [← hw8]; simp
  rw [hw8]
  clear hw8
  have Bw8 := Bw7.trans (bb.mono Bw7.size)
  have sw8 := bb.size
  replace LC := LC.below bb LC.lt
  replace LS := LS.below bb LS.lt
  replace LB := LB.below bb LB.lt
  replace T := T.below bb T.lt
  replace O := O.below bb
  replace P := P.below bb
  clear Bw7
  clear bb
  have cLB0 := LB.cell 0 rfl
  have cLB1 := LB.cell 1 rfl
  have cLB2 := LB.cell 2 rfl
  have cLB3 := LB.cell 3 rfl
  go_wp2_with fail
  refine (unhide VO _ (unhide HE _ Bw8)).mono ?_
  rintro _ w9 ⟨rfl, bb⟩
  clear cLB0 cLB1 cLB2 cLB3
  have Bw9 := Bw8.trans (bb.mono Bw8.size)
  have sw9 := bb.size
  replace LC := LC.below bb LC.lt
  replace LS := LS.below bb LS.lt
  replace LB := LB.below bb LB.lt
  replace T := T.below bb T.lt
  replace U := U.below bb U.lt
  replace O := O.below bb
  replace P := P.below bb
  clear Bw8
  clear bb
  have cU0 := U.cell 0 rfl
  have cU1 := U.cell 1 rfl
  have cU2 := U.cell 2 rfl
  have cU3 := U.cell 3 rfl
  have cU4 := U.cell 4 rfl
  have cU5 := U.cell 5 rfl
  have fU := U.frozen
  go_upto_region 11 with fail
  clear cU0 cU1 cU2 cU3 cU4 cU5
  clear fU
  obtain ⟨w10, hw10⟩ : ∃ y, (w9.setCell ⟨w7.heap.size, 0, none⟩ (.int .i64 vw)) = y := ⟨_, rfl⟩
  have kN : Kp w9 w10 (fun k => k = w7.heap.size) := hw10 ▸ set_kp _ _ _ _
  replace U : Loc w10 (w7.heap.size) #[.int .i64 vw, .int .i64 lo, .int .i64 v, .string s, .slice aO xs.length kO, .string d] := hw10 ▸ (U.set 0 _ rfl)
  replace LC := LC.kp kN (by omega)
  replace LS := LS.kp kN (by omega)
  replace LB := LB.kp kN (by omega)
  replace T := T.kp kN (by omega)
  replace O := O.kp kN (fun j hj e => by have := tO j hj; omega)
  replace P := P.kp kN (fun j hj e => by have := tP j hj; omega)
  have Bw10 := Below.kp Bw9 kN Bw9.size (fun k hk => by omega)
  have sw10 := kN.size
  rw [hw10]
  clear hw10 kN Bw9
  have cLC0 := LC.cell 0 rfl
  have cLC1 := LC.cell 1 rfl
  have cT0 := T.cell 0 rfl
  have cT1 := T.cell 1 rfl
  have cT2 := T.cell 2 rfl
  have cT3 := T.cell 3 rfl
  have cT4 := T.cell 4 rfl
  have cT5 := T.cell 5 rfl
  have cLB0 := LB.cell 0 rfl
  have cLB1 := LB.cell 1 rfl
  have cLB2 := LB.cell 2 rfl
  have cLB3 := LB.cell 3 rfl
  go_wp2_with fail
  refine (unhide I2 _ (O.ri (by omega)) (P.ri (by omega)) (unhide HE _ Bw10)).mono ?_
  rintro _ w11 ⟨rfl, bb⟩
  clear cLC0 cLC1 cT0 cT1 cT2 cT3 cT4 cT5 cLB0 cLB1 cLB2 cLB3
  have Bw11 := Bw10.trans (bb.mono Bw10.size)
  have sw11 := bb.size
  replace LC := LC.below bb LC.lt
  replace LS := LS.below bb LS.lt
  replace LB := LB.below bb LB.lt
  replace T := T.below bb T.lt
  replace U := U.below bb U.lt
  replace O := O.below bb
  replace P := P.below bb
  clear Bw10
  clear bb
  have cLC0 := LC.cell 0 rfl
  have cLC1 := LC.cell 1 rfl
  have cU0 := U.cell 0 rfl
  have cU1 := U.cell 1 rfl
  have cU2 := U.cell 2 rfl
  have cU3 := U.cell 3 rfl
  have cU4 := U.cell 4 rfl
  have cU5 := U.cell 5 rfl
  have cLB0 := LB.cell 0 rfl
  have cLB1 := LB.cell 1 rfl
  have cLB2 := LB.cell 2 rfl
  have cLB3 := LB.cell 3 rfl
  go_wp2_with fail
  refine (unhide I3 _ (O.ri (by omega)) (P.ri (by omega)) (unhide HE _ Bw11)).mono ?_
  rintro _ w12 ⟨rfl, bb⟩
  clear cLC0 cLC1 cU0 cU1 cU2 cU3 cU4 cU5 cLB0 cLB1 cLB2 cLB3
  have Bw12 := Bw11.trans (bb.mono Bw11.size)
  have sw12 := bb.size
  replace LC := LC.below bb LC.lt
  replace LS := LS.below bb LS.lt
  replace LB := LB.below bb LB.lt
  replace T := T.below bb T.lt
  replace U := U.below bb U.lt
  replace O := O.below bb
  replace P := P.below bb
  clear Bw11
  clear bb
  go_wp2
  go_ret
  exact ⟨rfl, Bw12⟩

set_option maxHeartbeats 16000000 in
set_option maxRecDepth 100000 in
theorem fnLockHolds_long (ao : Option Addr) (n ca : Nat) (w : World) (h : 1048576 < n) (hm : n ≤ maxLen) :
    Calls Tryz.prog 5 #[.slice ao n ca] w fun e w' => e = .returned (.bool true) ∧ Below w.heap.size w w' := by
  have BG := hide fun w => big_any ao n ca w (by unfold maxLen at hm; omega)
  rw [decide_eq_true h] at BG
  go_enter Tryz.func5, Tryz.ntmps5
  go_wp2_with fail
  refine (unhide BG _).mono ?_
  rintro _ w1 ⟨rfl, b1⟩
  go_wp2
  go_ret
  exact ⟨rfl, b1⟩
theorem fnLockHolds_walk (ao : Option Addr) (ca : Nat) (zs : List Int) (w : World) (hm : zs.length ≤ maxLen) (hx : zs = [] ∨ ∃ b off, ao = some ⟨b, off, none⟩ ∧ ∀ k, k < zs.length → w.cell? ⟨b, off + k, none⟩ = some (.int .u8 (zs.getD k 0))) (hb : ∀ k, k < zs.length → 0 ≤ zs.getD k 0 ∧ zs.getD k 0 ≤ 255) (hE : Env w) :
    Calls Tryz.prog 5 #[.slice ao zs.length ca] w fun e w' => e = .returned (.bool true) ∧ Below w.heap.size w w' := by
  by_cases h : zs.length ≤ 1048576
  · exact fnLockHolds_short ao ca zs w ⟨h, hx, hb⟩ hE
  · exact fnLockHolds_long ao zs.length ca w (by omega) hm
end Go.Proofs.YtgfboghieejbkaaGreatDoor
