/- The walk of laws.FnSafe. -/
import Derived.Test.YtmpmedbojfjnaaaGreatDoorFSAC
import Derived.Test.YtmpmedbojfjnaaaGreatDoorFSBO
import Derived.Test.YtmpmedbojfjnaaaGreatDoorFSBQ
import Derived.Test.YtmpmedbojfjnaaaGreatDoorFSBG
import Derived.Test.YtmpmedbojfjnaaaGreatDoorFSBH
import Derived.Test.YtmpmedbojfjnaaaGreatDoorFSBR
import Derived.Deep.RegionHeld3
import Derived.Deep.DeepCutAuto
namespace Go.Proofs.YtmpmedbojfjnaaaGreatDoor
open Go.RowKit
set_option linter.unusedSectionVars false
variable [∀ (a b c d : Int), Decidable (Ok4 a b c d)]
variable [∀ (a b c d : Nat), Decidable (okN a b c d)]
variable [∀ (last : Int) (s : St), Decidable (GoodSt last s)]
variable [∀ (x : T4), Decidable (OkT x)]
variable [∀ (n : Int) (s : List Int), Decidable (OkL n s)]
variable [∀ (n f : Int), Decidable (COk n f)]
variable [∀ (ts : List T4), Decidable (AllOk ts)]

set_option maxHeartbeats 64000000 in
set_option maxRecDepth 100000 in
theorem fnSafe_short (ao : Option Addr) (ca : Nat) (zs : List Int) (w : World) (h : DCode w ao zs) (hE : Env w) :
 Calls Tryz.prog 3 #[.slice ao zs.length ca] w fun e w' => e = .returned (.bool true) ∧ Below w.heap.size w w' := by
 have hz := h.len
 have BG := hide fun w => big_any ao zs.length ca w (by omega)
 rw [decide_eq_false (show ¬ 1048576 < zs.length by omega)] at BG
 have D1 := hide fun w' (hb : Below w.heap.size w w') => drawSee ao ca zs w' (h.below hb (Nat.le_refl _))
 have D2 := hide fun w' (hb : Below w.heap.size w w') => drawVote ao ca zs w' (h.below hb (Nat.le_refl _))
 have D3 := hide fun w' (hb : Below w.heap.size w w') => drawSafeSame ao ca zs w' (h.below hb (Nat.le_refl _))
 have D4 := hide fun w' (hb : Below w.heap.size w w') => drawSettles ao ca zs w' (h.below hb (Nat.le_refl _))
 have HE := hide fun w' (hb : Below w.heap.size w w') => hE.below hb
 clear h hE
 generalize zs.length = zl at *
 go_enter Tryz.func3, Tryz.ntmps3
 have Bw : Below w.heap.size w w := Below.refl _ _
 go_wp2_with fail
 refine (unhide BG _).mono ?_
 rintro _ w1 ⟨rfl, bb⟩
 have Bw1 := Bw.trans (bb.mono Bw.size)
 have sw1 := bb.size
 clear Bw
 clear bb
 clear BG
 go_wp2_with fail
 refine (unhide D1 _ Bw1).mono ?_
 rintro _ w2 ⟨n, f, vo, lo, v, s, uO, d, xs, v', s', uP, ys, rfl, hn, hs, hd, hl, hv1, hs', hl', O, P, bb⟩
 have Bw2 := Bw1.trans (bb.mono Bw1.size)
 have sw2 := bb.size
 clear Bw1
 clear bb
 clear D1 hn hv1
 replace O := OI.ri O (by omega)
 obtain ⟨aO, cO, rfl⟩ := O.form
 replace O := hide O
 replace P := OI.ri P (by omega)
 obtain ⟨aP, cP, rfl⟩ := P.form
 replace P := hide P
 have IS := hide fun w' (h : RI w' (.slice aO xs.length cO) xs) (h' : RI w' (.slice aP ys.length cP) ys) (e : Env w') => implSee n f vo lo v s aO cO xs d v' s' aP cP ys w' (by omega) (by omega) (by omega) e h h'
 have SS := hide fun w' (h : RI w' (.slice aO xs.length cO) xs) (h' : RI w' (.slice aP ys.length cP) ys) => specSee n f vo lo v s aO cO xs d v' s' aP cP ys w' (by omega) (by omega) (by omega) h h'
 have IK := hide fun w' (h : RI w' (.slice aO xs.length cO) xs) (e : Env w') => implSafeOk n f vo lo v s aO cO xs d w' (by omega) (by omega) e h
 have SK := hide fun w' (h : RI w' (.slice aO xs.length cO) xs) => specSafeOk n f vo lo v s aO cO xs d w' (by omega) (by omega) h
 have QK := hide fun w' (h : RI w' (.slice aP ys.length cP) ys) (e : Env w') => implQcOk n f v' s' aP cP ys w' (by omega) e h
 have FT := see_fit (goB n f vo lo v s xs d v' s' ys) v s xs d v' s' ys hs (by omega) hd hs' (by omega)
 have FN := hide (seen_no n f vo lo v s xs d v' s' ys)
 have FY := hide (seen_yes n f vo lo v s xs d v' s' ys)
 generalize seeL (goB n f vo lo v s xs d v' s' ys) lo s' = L1 at *
 generalize seeV (goB n f vo lo v s xs d v' s' ys) v v' = V1 at *
 generalize seeS (goB n f vo lo v s xs d v' s' ys) v v' s s' = T1 at *
 generalize seeX (goB n f vo lo v s xs d v' s' ys) v v' xs ys = X1 at *
 generalize seeD (goB n f vo lo v s xs d v' s' ys) d s' = D1 at *
 obtain ⟨ft1, ft2, ft3⟩ := FT
 generalize sokB n f vo lo v s xs d = b1 at *
 generalize qokB n f v' s' ys = b2 at *
 skip
 go_upto_region 4 with fail
 obtain ⟨w3, hw3⟩ : ∃ y, (((w2.alloc (.cells #[.int .i64 n, .int .i64 f] 25)).alloc (.cells #[.int .i64 vo, .int .i64 lo, .int .i64 v, .string s, .slice aO xs.length cO, .string d] 30)).alloc (.cells #[.int .i64 v', .string s', .slice aP ys.length cP] 28)) = y := ⟨_, rfl⟩
 have bb : Below w2.heap.size w2 w3 := hw3 ▸ (((Below.refl _ _).alloc (Nat.le_refl _) _).alloc (by simp) _).alloc (by simp; omega) _
 have LC : Loc w3 (w2.heap.size) #[.int .i64 n, .int .i64 f] := hw3 ▸ ((loc_at (w2) _ _ rfl).alloc _).alloc _
 have LS : Loc w3 (w2.heap.size + 1) #[.int .i64 vo, .int .i64 lo, .int .i64 v, .string s, .slice aO xs.length cO, .string d] := hw3 ▸ (loc_at (w2.alloc _) _ _ (by simp)).alloc _
 have LQ : Loc w3 (w2.heap.size + 1 + 1) #[.int .i64 v', .string s', .slice aP ys.length cP] := hw3 ▸ loc_at ((w2.alloc _).alloc _) _ _ (by simp)
 have zw3 : w2.heap.size + 1 + 1 + 1 ≤ w3.heap.size := by rw [← hw3]; simp
 rw [hw3]
 clear hw3
 have Bw3 := Bw2.trans (bb.mono Bw2.size)
 have sw3 := bb.size
 clear Bw2
 replace O := hide ((unhide O).below bb (Nat.le_refl _))
 replace P := hide ((unhide P).below bb (Nat.le_refl _))
 clear bb
 have cLC0 := LC.cell 0 rfl
 have cLC1 := LC.cell 1 rfl
 have cLS0 := LS.cell 0 rfl
 have cLS1 := LS.cell 1 rfl
 have cLS2 := LS.cell 2 rfl
 have cLS3 := LS.cell 3 rfl
 have cLS4 := LS.cell 4 rfl
 have cLS5 := LS.cell 5 rfl
 have cLQ0 := LQ.cell 0 rfl
 have cLQ1 := LQ.cell 1 rfl
 have cLQ2 := LQ.cell 2 rfl
 go_wp2_with fail
 refine (unhide IS _ (unhide O) (unhide P) (unhide HE _ Bw3)).mono ?_
 rintro _ w4 ⟨uA, rfl, OA, bb⟩
 clear cLC0 cLC1 cLS0 cLS1 cLS2 cLS3 cLS4 cLS5 cLQ0 cLQ1 cLQ2
 have Bw4 := Bw3.trans (bb.mono Bw3.size)
 have sw4 := bb.size
 replace LC := LC.below bb LC.lt
 replace LS := LS.below bb LS.lt
 replace LQ := LQ.below bb LQ.lt
 clear Bw3
 replace O := hide ((unhide O).below bb (Nat.le_refl _))
 replace P := hide ((unhide P).below bb (Nat.le_refl _))
 clear bb
 clear IS
 replace OA := OI.ri OA (by omega)
 obtain ⟨aA, cA, rfl⟩ := OA.form
 replace OA := hide OA
 go_upto_region 5 with fail
 obtain ⟨w5, hw5⟩ : ∃ y, (w4.alloc (.cells #[.int .i64 vo, .int .i64 L1, .int .i64 V1, .string T1, .slice aA X1.length cA, .string D1] 30)) = y := ⟨_, rfl⟩
 have bb : Below w4.heap.size w4 w5 := hw5 ▸ (Below.refl _ _).alloc (Nat.le_refl _) _
 have LA : Loc w5 (w4.heap.size) #[.int .i64 vo, .int .i64 L1, .int .i64 V1, .string T1, .slice aA X1.length cA, .string D1] := hw5 ▸ loc_at (w4) _ _ rfl
 have zw5 : w4.heap.size + 1 ≤ w5.heap.size := by rw [← hw5]; simp
 rw [hw5]
 clear hw5
 have Bw5 := Bw4.trans (bb.mono Bw4.size)
 have sw5 := bb.size
 replace LC := LC.below bb LC.lt
 replace LS := LS.below bb LS.lt
 replace LQ := LQ.below bb LQ.lt
 clear Bw4
 replace O := hide ((unhide O).below bb (Nat.le_refl _))
 replace P := hide ((unhide P).below bb (Nat.le_refl _))
 replace OA := hide ((unhide OA).below bb (Nat.le_refl _))
 clear bb
 go_wp2_with fail
 refine (unhide D2 _ Bw5).mono ?_
 rintro _ w6 ⟨n2, f2, vo2, lo2, v2, s2, uE, d2, x2, m, v3, s3, uF, x3, rfl, hn2, hs2, hd2, hl2, hm, hv3, hs3, hl3, O2, P2, bb⟩
 have Bw6 := Bw5.trans (bb.mono Bw5.size)
 have sw6 := bb.size
 replace LC := LC.below bb LC.lt
 replace LS := LS.below bb LS.lt
 replace LQ := LQ.below bb LQ.lt
 replace LA := LA.below bb LA.lt
 clear Bw5
 replace O := hide ((unhide O).below bb (Nat.le_refl _))
 replace P := hide ((unhide P).below bb (Nat.le_refl _))
 replace OA := hide ((unhide OA).below bb (Nat.le_refl _))
 clear bb
 clear D2 hn2 hv3
 replace O2 := OI.ri O2 (by omega)
 obtain ⟨aE, cE, rfl⟩ := O2.form
 replace O2 := hide O2
 replace P2 := OI.ri P2 (by omega)
 obtain ⟨aF, cF, rfl⟩ := P2.form
 replace P2 := hide P2
 have IV := hide fun w' (h : RI w' (.slice aE x2.length cE) x2) (h' : RI w' (.slice aF x3.length cF) x3) (e : Env w') => implVote n2 f2 vo2 lo2 v2 s2 aE cE x2 d2 m v3 s3 aF cF x3 w' (by omega) (by omega) (by omega) (by omega) e h h'
 have VV := hide fun w' (h : RI w' (.slice aE x2.length cE) x2) (h' : RI w' (.slice aF x3.length cF) x3) => specVote n2 f2 vo2 lo2 v2 s2 aE cE x2 d2 m v3 s3 aF cF x3 w' (by omega) (by omega) (by omega) (by omega) h h'
 have IM := hide fun z a k w' (h : RI w' (.slice a x2.length k) x2) (h' : RI w' (.slice aF x3.length cF) x3) (e : Env w') => implMayVote n2 f2 z lo2 v2 s2 a k x2 d2 m v3 s3 aF cF x3 w' (by omega) (by omega) (by omega) (by omega) e h h'
 have I1 := hide fun w' h h' e => unhide IM vo2 aE cE w' h h' e
 have I2 := hide fun a k w' h h' e => unhide IM (viewAns m) a k w' h h' e
 simp only [may_again] at I2
 clear IM
 have HM : Hid (mayB n2 f2 vo2 lo2 v2 s2 x2 d2 m v3 s3 x3 = true → vo2 < viewAns m) := hide fun h => may_has h
 have HT := hide (show votV true vo2 m = viewAns m from rfl)
 generalize mayB n2 f2 vo2 lo2 v2 s2 x2 d2 m v3 s3 x3 = ok at *
 generalize viewAns m = vw at *
 go_upto_region 6 with fail
 obtain ⟨w7, hw7⟩ : ∃ y, (((w6.alloc (.cells #[.int .i64 n2, .int .i64 f2] 25)).alloc (.cells #[.int .i64 vo2, .int .i64 lo2, .int .i64 v2, .string s2, .slice aE x2.length cE, .string d2] 30)).alloc (.cells #[.string m, .int .i64 v3, .string s3, .slice aF x3.length cF] 35)) = y := ⟨_, rfl⟩
 have bb : Below w6.heap.size w6 w7 := hw7 ▸ (((Below.refl _ _).alloc (Nat.le_refl _) _).alloc (by simp) _).alloc (by simp; omega) _
 have LD : Loc w7 (w6.heap.size) #[.int .i64 n2, .int .i64 f2] := hw7 ▸ ((loc_at (w6) _ _ rfl).alloc _).alloc _
 have LT : Loc w7 (w6.heap.size + 1) #[.int .i64 vo2, .int .i64 lo2, .int .i64 v2, .string s2, .slice aE x2.length cE, .string d2] := hw7 ▸ (loc_at (w6.alloc _) _ _ (by simp)).alloc _
 have LB : Loc w7 (w6.heap.size + 1 + 1) #[.string m, .int .i64 v3, .string s3, .slice aF x3.length cF] := hw7 ▸ loc_at ((w6.alloc _).alloc _) _ _ (by simp)
 have zw7 : w6.heap.size + 1 + 1 + 1 ≤ w7.heap.size := by rw [← hw7]; simp
 rw [hw7]
 clear hw7
 have Bw7 := Bw6.trans (bb.mono Bw6.size)
 have sw7 := bb.size
 replace LC := LC.below bb LC.lt
 replace LS := LS.below bb LS.lt
 replace LQ := LQ.below bb LQ.lt
 replace LA := LA.below bb LA.lt
 clear Bw6
 replace O := hide ((unhide O).below bb (Nat.le_refl _))
 replace P := hide ((unhide P).below bb (Nat.le_refl _))
 replace OA := hide ((unhide OA).below bb (Nat.le_refl _))
 replace O2 := hide ((unhide O2).below bb (Nat.le_refl _))
 replace P2 := hide ((unhide P2).below bb (Nat.le_refl _))
 clear bb
 have HV := HT
 obtain ⟨o1, ho1⟩ : ∃ z, votV ok vo2 m = z := ⟨_, rfl⟩
 rw [ho1] at IV VV
 replace ho1 := hide ho1
 clear HV
 have cLD0 := LD.cell 0 rfl
 have cLD1 := LD.cell 1 rfl
 have cLT0 := LT.cell 0 rfl
 have cLT1 := LT.cell 1 rfl
 have cLT2 := LT.cell 2 rfl
 have cLT3 := LT.cell 3 rfl
 have cLT4 := LT.cell 4 rfl
 have cLT5 := LT.cell 5 rfl
 have cLB0 := LB.cell 0 rfl
 have cLB1 := LB.cell 1 rfl
 have cLB2 := LB.cell 2 rfl
 have cLB3 := LB.cell 3 rfl
 go_wp2_with fail
 refine (unhide IV _ (unhide O2) (unhide P2) (unhide HE _ Bw7)).mono ?_
 rintro _ w8 ⟨uG, rfl, OG, bb⟩
 clear cLD0 cLD1 cLT0 cLT1 cLT2 cLT3 cLT4 cLT5 cLB0 cLB1 cLB2 cLB3
 have Bw8 := Bw7.trans (bb.mono Bw7.size)
 have sw8 := bb.size
 replace LC := LC.below bb LC.lt
 replace LS := LS.below bb LS.lt
 replace LQ := LQ.below bb LQ.lt
 replace LA := LA.below bb LA.lt
 replace LD := LD.below bb LD.lt
 replace LT := LT.below bb LT.lt
 replace LB := LB.below bb LB.lt
 clear Bw7
 replace O := hide ((unhide O).below bb (Nat.le_refl _))
 replace P := hide ((unhide P).below bb (Nat.le_refl _))
 replace OA := hide ((unhide OA).below bb (Nat.le_refl _))
 replace O2 := hide ((unhide O2).below bb (Nat.le_refl _))
 replace P2 := hide ((unhide P2).below bb (Nat.le_refl _))
 clear bb
 clear IV
 replace OG := OI.ri OG (by omega)
 obtain ⟨aG, cG, rfl⟩ := OG.form
 replace OG := hide OG
 go_upto_region 7 with fail
 obtain ⟨w9, hw9⟩ : ∃ y, (w8.alloc (.cells #[.int .i64 o1, .int .i64 lo2, .int .i64 v2, .string s2, .slice aG x2.length cG, .string d2] 30)) = y := ⟨_, rfl⟩
 have bb : Below w8.heap.size w8 w9 := hw9 ▸ (Below.refl _ _).alloc (Nat.le_refl _) _
 have LE : Loc w9 (w8.heap.size) #[.int .i64 o1, .int .i64 lo2, .int .i64 v2, .string s2, .slice aG x2.length cG, .string d2] := hw9 ▸ loc_at (w8) _ _ rfl
 have zw9 : w8.heap.size + 1 ≤ w9.heap.size := by rw [← hw9]; simp
 rw [hw9]
 clear hw9
 have Bw9 := Bw8.trans (bb.mono Bw8.size)
 have sw9 := bb.size
 replace LC := LC.below bb LC.lt
 replace LS := LS.below bb LS.lt
 replace LQ := LQ.below bb LQ.lt
 replace LA := LA.below bb LA.lt
 replace LD := LD.below bb LD.lt
 replace LT := LT.below bb LT.lt
 replace LB := LB.below bb LB.lt
 clear Bw8
 replace O := hide ((unhide O).below bb (Nat.le_refl _))
 replace P := hide ((unhide P).below bb (Nat.le_refl _))
 replace OA := hide ((unhide OA).below bb (Nat.le_refl _))
 replace O2 := hide ((unhide O2).below bb (Nat.le_refl _))
 replace P2 := hide ((unhide P2).below bb (Nat.le_refl _))
 replace OG := hide ((unhide OG).below bb (Nat.le_refl _))
 clear bb
 have cLD0 := LD.cell 0 rfl
 have cLD1 := LD.cell 1 rfl
 have cLT0 := LT.cell 0 rfl
 have cLT1 := LT.cell 1 rfl
 have cLT2 := LT.cell 2 rfl
 have cLT3 := LT.cell 3 rfl
 have cLT4 := LT.cell 4 rfl
 have cLT5 := LT.cell 5 rfl
 have cLB0 := LB.cell 0 rfl
 have cLB1 := LB.cell 1 rfl
 have cLB2 := LB.cell 2 rfl
 have cLB3 := LB.cell 3 rfl
 go_wp2_with fail
 refine (unhide VV _ (unhide O2) (unhide P2)).mono ?_
 rintro _ w10 ⟨uH, rfl, OH, bb⟩
 clear cLD0 cLD1 cLT0 cLT1 cLT2 cLT3 cLT4 cLT5 cLB0 cLB1 cLB2 cLB3
 have Bw10 := Bw9.trans (bb.mono Bw9.size)
 have sw10 := bb.size
 replace LC := LC.below bb LC.lt
 replace LS := LS.below bb LS.lt
 replace LQ := LQ.below bb LQ.lt
 replace LA := LA.below bb LA.lt
 replace LD := LD.below bb LD.lt
 replace LT := LT.below bb LT.lt
 replace LB := LB.below bb LB.lt
 replace LE := LE.below bb LE.lt
 clear Bw9
 replace O := hide ((unhide O).below bb (Nat.le_refl _))
 replace P := hide ((unhide P).below bb (Nat.le_refl _))
 replace OA := hide ((unhide OA).below bb (Nat.le_refl _))
 replace O2 := hide ((unhide O2).below bb (Nat.le_refl _))
 replace P2 := hide ((unhide P2).below bb (Nat.le_refl _))
 replace OG := hide ((unhide OG).below bb (Nat.le_refl _))
 clear bb
 clear VV
 replace OH := OI.ri OH (by omega)
 obtain ⟨aH, cH, rfl⟩ := OH.form
 replace OH := hide OH
 go_upto_region 8 with fail
 obtain ⟨w11, hw11⟩ : ∃ y, (w10.alloc (.cells #[.int .i64 o1, .int .i64 lo2, .int .i64 v2, .string s2, .slice aH x2.length cH, .string d2] 30)) = y := ⟨_, rfl⟩
 have bb : Below w10.heap.size w10 w11 := hw11 ▸ (Below.refl _ _).alloc (Nat.le_refl _) _
 have LF : Loc w11 (w10.heap.size) #[.int .i64 o1, .int .i64 lo2, .int .i64 v2, .string s2, .slice aH x2.length cH, .string d2] := hw11 ▸ loc_at (w10) _ _ rfl
 have zw11 : w10.heap.size + 1 ≤ w11.heap.size := by rw [← hw11]; simp
 rw [hw11]
 clear hw11
 have Bw11 := Bw10.trans (bb.mono Bw10.size)
 have sw11 := bb.size
 replace LC := LC.below bb LC.lt
 replace LS := LS.below bb LS.lt
 replace LQ := LQ.below bb LQ.lt
 replace LA := LA.below bb LA.lt
 replace LD := LD.below bb LD.lt
 replace LT := LT.below bb LT.lt
 replace LB := LB.below bb LB.lt
 replace LE := LE.below bb LE.lt
 clear Bw10
 replace O := hide ((unhide O).below bb (Nat.le_refl _))
 replace P := hide ((unhide P).below bb (Nat.le_refl _))
 replace OA := hide ((unhide OA).below bb (Nat.le_refl _))
 replace O2 := hide ((unhide O2).below bb (Nat.le_refl _))
 replace P2 := hide ((unhide P2).below bb (Nat.le_refl _))
 replace OG := hide ((unhide OG).below bb (Nat.le_refl _))
 replace OH := hide ((unhide OH).below bb (Nat.le_refl _))
 clear bb
 go_wp2_with fail
 refine (unhide D3 _ Bw11).mono ?_
 rintro _ w12 ⟨vo4, lo4, v4, s4, uI, d4, x4, vo5, lo5, v5, s5, uJ, d5, x5, rfl, hs4, hd4, hl4, hs5, hd5, hl5, O4, O5, bb⟩
 have Bw12 := Bw11.trans (bb.mono Bw11.size)
 have sw12 := bb.size
 replace LC := LC.below bb LC.lt
 replace LS := LS.below bb LS.lt
 replace LQ := LQ.below bb LQ.lt
 replace LA := LA.below bb LA.lt
 replace LD := LD.below bb LD.lt
 replace LT := LT.below bb LT.lt
 replace LB := LB.below bb LB.lt
 replace LE := LE.below bb LE.lt
 replace LF := LF.below bb LF.lt
 clear Bw11
 replace O := hide ((unhide O).below bb (Nat.le_refl _))
 replace P := hide ((unhide P).below bb (Nat.le_refl _))
 replace OA := hide ((unhide OA).below bb (Nat.le_refl _))
 replace O2 := hide ((unhide O2).below bb (Nat.le_refl _))
 replace P2 := hide ((unhide P2).below bb (Nat.le_refl _))
 replace OG := hide ((unhide OG).below bb (Nat.le_refl _))
 replace OH := hide ((unhide OH).below bb (Nat.le_refl _))
 clear bb
 clear D3
 replace O4 := OI.ri O4 (by omega)
 obtain ⟨aI, cI, rfl⟩ := O4.form
 replace O4 := hide O4
 replace O5 := OI.ri O5 (by omega)
 obtain ⟨aJ, cJ, rfl⟩ := O5.form
 replace O5 := hide O5
 have IX := hide fun w' (h : RI w' (.slice aI x4.length cI) x4) (h' : RI w' (.slice aJ x5.length cJ) x5) => implSafeSame vo4 lo4 v4 s4 aI cI x4 d4 vo5 lo5 v5 s5 aJ cJ x5 d5 w' h h'
 have SX := hide fun w' (h : RI w' (.slice aI x4.length cI) x4) (h' : RI w' (.slice aJ x5.length cJ) x5) => specSafeSame vo4 lo4 v4 s4 aI cI x4 d4 vo5 lo5 v5 s5 aJ cJ x5 d5 w' h h'
 generalize ssamB vo4 lo4 v4 s4 x4 d4 vo5 lo5 v5 s5 x5 d5 = bx at *
 go_upto_region 9 with fail
 obtain ⟨w13, hw13⟩ : ∃ y, ((w12.alloc (.cells #[.int .i64 vo4, .int .i64 lo4, .int .i64 v4, .string s4, .slice aI x4.length cI, .string d4] 30)).alloc (.cells #[.int .i64 vo5, .int .i64 lo5, .int .i64 v5, .string s5, .slice aJ x5.length cJ, .string d5] 30)) = y := ⟨_, rfl⟩
 have bb : Below w12.heap.size w12 w13 := hw13 ▸ ((Below.refl _ _).alloc (Nat.le_refl _) _).alloc (by simp) _
 have LX : Loc w13 (w12.heap.size) #[.int .i64 vo4, .int .i64 lo4, .int .i64 v4, .string s4, .slice aI x4.length cI, .string d4] := hw13 ▸ (loc_at (w12) _ _ rfl).alloc _
 have LY : Loc w13 (w12.heap.size + 1) #[.int .i64 vo5, .int .i64 lo5, .int .i64 v5, .string s5, .slice aJ x5.length cJ, .string d5] := hw13 ▸ loc_at (w12.alloc _) _ _ (by simp)
 have zw13 : w12.heap.size + 1 + 1 ≤ w13.heap.size := by rw [← hw13]; simp
 rw [hw13]
 clear hw13
 have Bw13 := Bw12.trans (bb.mono Bw12.size)
 have sw13 := bb.size
 replace LC := LC.below bb LC.lt
 replace LS := LS.below bb LS.lt
 replace LQ := LQ.below bb LQ.lt
 replace LA := LA.below bb LA.lt
 replace LD := LD.below bb LD.lt
 replace LT := LT.below bb LT.lt
 replace LB := LB.below bb LB.lt
 replace LE := LE.below bb LE.lt
 replace LF := LF.below bb LF.lt
 clear Bw12
 replace O := hide ((unhide O).below bb (Nat.le_refl _))
 replace P := hide ((unhide P).below bb (Nat.le_refl _))
 replace OA := hide ((unhide OA).below bb (Nat.le_refl _))
 replace O2 := hide ((unhide O2).below bb (Nat.le_refl _))
 replace P2 := hide ((unhide P2).below bb (Nat.le_refl _))
 replace OG := hide ((unhide OG).below bb (Nat.le_refl _))
 replace OH := hide ((unhide OH).below bb (Nat.le_refl _))
 replace O4 := hide ((unhide O4).below bb (Nat.le_refl _))
 replace O5 := hide ((unhide O5).below bb (Nat.le_refl _))
 clear bb
 go_wp2_with fail
 refine (unhide D4 _ Bw13).mono ?_
 rintro _ w14 ⟨nm9, rfl, hn9, bb⟩
 have Bw14 := Bw13.trans (bb.mono Bw13.size)
 have sw14 := bb.size
 replace LC := LC.below bb LC.lt
 replace LS := LS.below bb LS.lt
 replace LQ := LQ.below bb LQ.lt
 replace LA := LA.below bb LA.lt
 replace LD := LD.below bb LD.lt
 replace LT := LT.below bb LT.lt
 replace LB := LB.below bb LB.lt
 replace LE := LE.below bb LE.lt
 replace LF := LF.below bb LF.lt
 replace LX := LX.below bb LX.lt
 replace LY := LY.below bb LY.lt
 clear Bw13
 replace O := hide ((unhide O).below bb (Nat.le_refl _))
 replace P := hide ((unhide P).below bb (Nat.le_refl _))
 replace OA := hide ((unhide OA).below bb (Nat.le_refl _))
 replace O2 := hide ((unhide O2).below bb (Nat.le_refl _))
 replace P2 := hide ((unhide P2).below bb (Nat.le_refl _))
 replace OG := hide ((unhide OG).below bb (Nat.le_refl _))
 replace OH := hide ((unhide OH).below bb (Nat.le_refl _))
 replace O4 := hide ((unhide O4).below bb (Nat.le_refl _))
 replace O5 := hide ((unhide O5).below bb (Nat.le_refl _))
 clear bb
 clear D4
 have IT := hide fun w' (e : Env w') => implSettles nm9 w' (by omega) e
 have ST9 := hide fun w' => specSettles nm9 w' (by omega)
 have hmz := stN_size (s := nm9)
 have EX := hide fun w' (e : Env w') => implExtends nm9 (stN nm9) w' (by omega) (by omega) e
 have H1 := hide fun w' (e : Env w') => implHeight (stN nm9) w' (by omega) e
 have H2 := hide fun w' (e : Env w') => implHeight nm9 w' (by omega) e
 have HS := hide fun h => st_has (s := nm9) h
 have hh1 := (height_view (s := nm9)).2.1
 have hh0 : -1 ≤ heightAns nm9 := by unfold heightAns; split <;> omega
 generalize stB nm9 = is at *
 generalize extB nm9 (stN nm9) = xb at *
 generalize heightAns (stN nm9) = h1 at *
 generalize heightAns nm9 = h2 at *
 generalize stN nm9 = mm at *
 go_wp2_with fail
 refine (unhide IT _ (unhide HE _ Bw14)).mono ?_
 rintro _ w15 ⟨rfl, bb⟩
 have Bw15 := Bw14.trans (bb.mono Bw14.size)
 have sw15 := bb.size
 replace LC := LC.below bb LC.lt
 replace LS := LS.below bb LS.lt
 replace LQ := LQ.below bb LQ.lt
 replace LA := LA.below bb LA.lt
 replace LD := LD.below bb LD.lt
 replace LT := LT.below bb LT.lt
 replace LB := LB.below bb LB.lt
 replace LE := LE.below bb LE.lt
 replace LF := LF.below bb LF.lt
 replace LX := LX.below bb LX.lt
 replace LY := LY.below bb LY.lt
 clear Bw14
 replace O := hide ((unhide O).below bb (Nat.le_refl _))
 replace P := hide ((unhide P).below bb (Nat.le_refl _))
 replace OA := hide ((unhide OA).below bb (Nat.le_refl _))
 replace O2 := hide ((unhide O2).below bb (Nat.le_refl _))
 replace P2 := hide ((unhide P2).below bb (Nat.le_refl _))
 replace OG := hide ((unhide OG).below bb (Nat.le_refl _))
 replace OH := hide ((unhide OH).below bb (Nat.le_refl _))
 replace O4 := hide ((unhide O4).below bb (Nat.le_refl _))
 replace O5 := hide ((unhide O5).below bb (Nat.le_refl _))
 clear bb
 go_wp2_with fail
 refine (unhide ST9 _).mono ?_
 rintro _ w16 ⟨rfl, bb⟩
 have Bw16 := Bw15.trans (bb.mono Bw15.size)
 have sw16 := bb.size
 replace LC := LC.below bb LC.lt
 replace LS := LS.below bb LS.lt
 replace LQ := LQ.below bb LQ.lt
 replace LA := LA.below bb LA.lt
 replace LD := LD.below bb LD.lt
 replace LT := LT.below bb LT.lt
 replace LB := LB.below bb LB.lt
 replace LE := LE.below bb LE.lt
 replace LF := LF.below bb LF.lt
 replace LX := LX.below bb LX.lt
 replace LY := LY.below bb LY.lt
 clear Bw15
 replace O := hide ((unhide O).below bb (Nat.le_refl _))
 replace P := hide ((unhide P).below bb (Nat.le_refl _))
 replace OA := hide ((unhide OA).below bb (Nat.le_refl _))
 replace O2 := hide ((unhide O2).below bb (Nat.le_refl _))
 replace P2 := hide ((unhide P2).below bb (Nat.le_refl _))
 replace OG := hide ((unhide OG).below bb (Nat.le_refl _))
 replace OH := hide ((unhide OH).below bb (Nat.le_refl _))
 replace O4 := hide ((unhide O4).below bb (Nat.le_refl _))
 replace O5 := hide ((unhide O5).below bb (Nat.le_refl _))
 clear bb
 clear IT ST9
 as_aux_lemma =>
  have SA := hide fun a k a' k' w' (h : RI w' (.slice a X1.length k) X1) (h' : RI w' (.slice a' X1.length k') X1) => implSafeSame vo L1 V1 T1 a k X1 D1 vo L1 V1 T1 a' k' X1 D1 w' h h'
  have SE := hide fun a k a' k' w' (h : RI w' (.slice a x2.length k) x2) (h' : RI w' (.slice a' x2.length k') x2) => implSafeSame o1 lo2 v2 s2 a k x2 d2 o1 lo2 v2 s2 a' k' x2 d2 w' h h'
  have SN := hide fun w' (h : RI w' (.slice none 0 0) []) => implSafeSame 0 0 0 ⟨#[]⟩ none 0 [] ⟨#[]⟩ 0 0 0 ⟨#[]⟩ none 0 [] ⟨#[]⟩ w' h h
  simp only [ssam_me] at SA SE SN
  have NR : Hid (∀ w, RI w (.slice none 0 0) []) := hide fun w => ⟨by simp, none, 0, rfl, .inl rfl⟩
  have eok : (ok != ok) = false := by simp
  have ebx : (bx != bx) = false := by simp
  have eb1 : (b1 != b1) = false := by simp
  have eis : (is != is) = false := by simp
  have emm : (mm.toList != mm.toList) = false := by simp
  have emm' : (mm.toList == mm.toList) = true := by simp
  have K : Hid (∀ w', Below w16.heap.size w16 w' → (fun w' => Below w16.heap.size w16 w' ∧ (w'.cell? ⟨w2.heap.size, 0, none⟩ = some (.int .i64 n) ∧ w'.cell? ⟨w2.heap.size, 1, none⟩ = some (.int .i64 f)) ∧ (w'.cell? ⟨w2.heap.size + 1, 0, none⟩ = some (.int .i64 vo) ∧ w'.cell? ⟨w2.heap.size + 1, 1, none⟩ = some (.int .i64 lo) ∧ w'.cell? ⟨w2.heap.size + 1, 2, none⟩ = some (.int .i64 v) ∧ w'.cell? ⟨w2.heap.size + 1, 3, none⟩ = some (.string s) ∧ w'.cell? ⟨w2.heap.size + 1, 4, none⟩ = some (.slice aO xs.length cO) ∧ w'.cell? ⟨w2.heap.size + 1, 5, none⟩ = some (.string d)) ∧ (w'.cell? ⟨w2.heap.size + 1 + 1, 0, none⟩ = some (.int .i64 v') ∧ w'.cell? ⟨w2.heap.size + 1 + 1, 1, none⟩ = some (.string s') ∧ w'.cell? ⟨w2.heap.size + 1 + 1, 2, none⟩ = some (.slice aP ys.length cP)) ∧ (w'.cell? ⟨w4.heap.size, 0, none⟩ = some (.int .i64 vo) ∧ w'.cell? ⟨w4.heap.size, 1, none⟩ = some (.int .i64 L1) ∧ w'.cell? ⟨w4.heap.size, 2, none⟩ = some (.int .i64 V1) ∧ w'.cell? ⟨w4.heap.size, 3, none⟩ = some (.string T1) ∧ w'.cell? ⟨w4.heap.size, 4, none⟩ = some (.slice aA X1.length cA) ∧ w'.cell? ⟨w4.heap.size, 5, none⟩ = some (.string D1)) ∧ (w'.cell? ⟨w6.heap.size, 0, none⟩ = some (.int .i64 n2) ∧ w'.cell? ⟨w6.heap.size, 1, none⟩ = some (.int .i64 f2)) ∧ (w'.cell? ⟨w6.heap.size + 1, 0, none⟩ = some (.int .i64 vo2) ∧ w'.cell? ⟨w6.heap.size + 1, 1, none⟩ = some (.int .i64 lo2) ∧ w'.cell? ⟨w6.heap.size + 1, 2, none⟩ = some (.int .i64 v2) ∧ w'.cell? ⟨w6.heap.size + 1, 3, none⟩ = some (.string s2) ∧ w'.cell? ⟨w6.heap.size + 1, 4, none⟩ = some (.slice aE x2.length cE) ∧ w'.cell? ⟨w6.heap.size + 1, 5, none⟩ = some (.string d2)) ∧ (w'.cell? ⟨w6.heap.size + 1 + 1, 0, none⟩ = some (.string m) ∧ w'.cell? ⟨w6.heap.size + 1 + 1, 1, none⟩ = some (.int .i64 v3) ∧ w'.cell? ⟨w6.heap.size + 1 + 1, 2, none⟩ = some (.string s3) ∧ w'.cell? ⟨w6.heap.size + 1 + 1, 3, none⟩ = some (.slice aF x3.length cF)) ∧ (w'.cell? ⟨w8.heap.size, 0, none⟩ = some (.int .i64 o1) ∧ w'.cell? ⟨w8.heap.size, 1, none⟩ = some (.int .i64 lo2) ∧ w'.cell? ⟨w8.heap.size, 2, none⟩ = some (.int .i64 v2) ∧ w'.cell? ⟨w8.heap.size, 3, none⟩ = some (.string s2) ∧ w'.cell? ⟨w8.heap.size, 4, none⟩ = some (.slice aG x2.length cG) ∧ w'.cell? ⟨w8.heap.size, 5, none⟩ = some (.string d2)) ∧ (w'.cell? ⟨w10.heap.size, 0, none⟩ = some (.int .i64 o1) ∧ w'.cell? ⟨w10.heap.size, 1, none⟩ = some (.int .i64 lo2) ∧ w'.cell? ⟨w10.heap.size, 2, none⟩ = some (.int .i64 v2) ∧ w'.cell? ⟨w10.heap.size, 3, none⟩ = some (.string s2) ∧ w'.cell? ⟨w10.heap.size, 4, none⟩ = some (.slice aH x2.length cH) ∧ w'.cell? ⟨w10.heap.size, 5, none⟩ = some (.string d2)) ∧ (w'.cell? ⟨w12.heap.size, 0, none⟩ = some (.int .i64 vo4) ∧ w'.cell? ⟨w12.heap.size, 1, none⟩ = some (.int .i64 lo4) ∧ w'.cell? ⟨w12.heap.size, 2, none⟩ = some (.int .i64 v4) ∧ w'.cell? ⟨w12.heap.size, 3, none⟩ = some (.string s4) ∧ w'.cell? ⟨w12.heap.size, 4, none⟩ = some (.slice aI x4.length cI) ∧ w'.cell? ⟨w12.heap.size, 5, none⟩ = some (.string d4)) ∧ (w'.cell? ⟨w12.heap.size + 1, 0, none⟩ = some (.int .i64 vo5) ∧ w'.cell? ⟨w12.heap.size + 1, 1, none⟩ = some (.int .i64 lo5) ∧ w'.cell? ⟨w12.heap.size + 1, 2, none⟩ = some (.int .i64 v5) ∧ w'.cell? ⟨w12.heap.size + 1, 3, none⟩ = some (.string s5) ∧ w'.cell? ⟨w12.heap.size + 1, 4, none⟩ = some (.slice aJ x5.length cJ) ∧ w'.cell? ⟨w12.heap.size + 1, 5, none⟩ = some (.string d5))) w') := hide fun w' hb' => ⟨hb', ⟨(LC.below hb' LC.lt).cell 0 rfl, (LC.below hb' LC.lt).cell 1 rfl⟩, ⟨(LS.below hb' LS.lt).cell 0 rfl, (LS.below hb' LS.lt).cell 1 rfl, (LS.below hb' LS.lt).cell 2 rfl, (LS.below hb' LS.lt).cell 3 rfl, (LS.below hb' LS.lt).cell 4 rfl, (LS.below hb' LS.lt).cell 5 rfl⟩, ⟨(LQ.below hb' LQ.lt).cell 0 rfl, (LQ.below hb' LQ.lt).cell 1 rfl, (LQ.below hb' LQ.lt).cell 2 rfl⟩, ⟨(LA.below hb' LA.lt).cell 0 rfl, (LA.below hb' LA.lt).cell 1 rfl, (LA.below hb' LA.lt).cell 2 rfl, (LA.below hb' LA.lt).cell 3 rfl, (LA.below hb' LA.lt).cell 4 rfl, (LA.below hb' LA.lt).cell 5 rfl⟩, ⟨(LD.below hb' LD.lt).cell 0 rfl, (LD.below hb' LD.lt).cell 1 rfl⟩, ⟨(LT.below hb' LT.lt).cell 0 rfl, (LT.below hb' LT.lt).cell 1 rfl, (LT.below hb' LT.lt).cell 2 rfl, (LT.below hb' LT.lt).cell 3 rfl, (LT.below hb' LT.lt).cell 4 rfl, (LT.below hb' LT.lt).cell 5 rfl⟩, ⟨(LB.below hb' LB.lt).cell 0 rfl, (LB.below hb' LB.lt).cell 1 rfl, (LB.below hb' LB.lt).cell 2 rfl, (LB.below hb' LB.lt).cell 3 rfl⟩, ⟨(LE.below hb' LE.lt).cell 0 rfl, (LE.below hb' LE.lt).cell 1 rfl, (LE.below hb' LE.lt).cell 2 rfl, (LE.below hb' LE.lt).cell 3 rfl, (LE.below hb' LE.lt).cell 4 rfl, (LE.below hb' LE.lt).cell 5 rfl⟩, ⟨(LF.below hb' LF.lt).cell 0 rfl, (LF.below hb' LF.lt).cell 1 rfl, (LF.below hb' LF.lt).cell 2 rfl, (LF.below hb' LF.lt).cell 3 rfl, (LF.below hb' LF.lt).cell 4 rfl, (LF.below hb' LF.lt).cell 5 rfl⟩, ⟨(LX.below hb' LX.lt).cell 0 rfl, (LX.below hb' LX.lt).cell 1 rfl, (LX.below hb' LX.lt).cell 2 rfl, (LX.below hb' LX.lt).cell 3 rfl, (LX.below hb' LX.lt).cell 4 rfl, (LX.below hb' LX.lt).cell 5 rfl⟩, ⟨(LY.below hb' LY.lt).cell 0 rfl, (LY.below hb' LY.lt).cell 1 rfl, (LY.below hb' LY.lt).cell 2 rfl, (LY.below hb' LY.lt).cell 3 rfl, (LY.below hb' LY.lt).cell 4 rfl, (LY.below hb' LY.lt).cell 5 rfl⟩⟩
  go_upto_region 12 with fail
  have bA : Below w16.heap.size w16 w16.drew := Below.drew (Below.refl _ _)
  refine wp_region_noPanic ?_
  refine wp_region_held_drew (S := fun w' => Below w16.heap.size w16 w' ∧ (w'.cell? ⟨w2.heap.size, 0, none⟩ = some (.int .i64 n) ∧ w'.cell? ⟨w2.heap.size, 1, none⟩ = some (.int .i64 f)) ∧ (w'.cell? ⟨w2.heap.size + 1, 0, none⟩ = some (.int .i64 vo) ∧ w'.cell? ⟨w2.heap.size + 1, 1, none⟩ = some (.int .i64 lo) ∧ w'.cell? ⟨w2.heap.size + 1, 2, none⟩ = some (.int .i64 v) ∧ w'.cell? ⟨w2.heap.size + 1, 3, none⟩ = some (.string s) ∧ w'.cell? ⟨w2.heap.size + 1, 4, none⟩ = some (.slice aO xs.length cO) ∧ w'.cell? ⟨w2.heap.size + 1, 5, none⟩ = some (.string d)) ∧ (w'.cell? ⟨w2.heap.size + 1 + 1, 0, none⟩ = some (.int .i64 v') ∧ w'.cell? ⟨w2.heap.size + 1 + 1, 1, none⟩ = some (.string s') ∧ w'.cell? ⟨w2.heap.size + 1 + 1, 2, none⟩ = some (.slice aP ys.length cP)) ∧ (w'.cell? ⟨w4.heap.size, 0, none⟩ = some (.int .i64 vo) ∧ w'.cell? ⟨w4.heap.size, 1, none⟩ = some (.int .i64 L1) ∧ w'.cell? ⟨w4.heap.size, 2, none⟩ = some (.int .i64 V1) ∧ w'.cell? ⟨w4.heap.size, 3, none⟩ = some (.string T1) ∧ w'.cell? ⟨w4.heap.size, 4, none⟩ = some (.slice aA X1.length cA) ∧ w'.cell? ⟨w4.heap.size, 5, none⟩ = some (.string D1)) ∧ (w'.cell? ⟨w6.heap.size, 0, none⟩ = some (.int .i64 n2) ∧ w'.cell? ⟨w6.heap.size, 1, none⟩ = some (.int .i64 f2)) ∧ (w'.cell? ⟨w6.heap.size + 1, 0, none⟩ = some (.int .i64 vo2) ∧ w'.cell? ⟨w6.heap.size + 1, 1, none⟩ = some (.int .i64 lo2) ∧ w'.cell? ⟨w6.heap.size + 1, 2, none⟩ = some (.int .i64 v2) ∧ w'.cell? ⟨w6.heap.size + 1, 3, none⟩ = some (.string s2) ∧ w'.cell? ⟨w6.heap.size + 1, 4, none⟩ = some (.slice aE x2.length cE) ∧ w'.cell? ⟨w6.heap.size + 1, 5, none⟩ = some (.string d2)) ∧ (w'.cell? ⟨w6.heap.size + 1 + 1, 0, none⟩ = some (.string m) ∧ w'.cell? ⟨w6.heap.size + 1 + 1, 1, none⟩ = some (.int .i64 v3) ∧ w'.cell? ⟨w6.heap.size + 1 + 1, 2, none⟩ = some (.string s3) ∧ w'.cell? ⟨w6.heap.size + 1 + 1, 3, none⟩ = some (.slice aF x3.length cF)) ∧ (w'.cell? ⟨w8.heap.size, 0, none⟩ = some (.int .i64 o1) ∧ w'.cell? ⟨w8.heap.size, 1, none⟩ = some (.int .i64 lo2) ∧ w'.cell? ⟨w8.heap.size, 2, none⟩ = some (.int .i64 v2) ∧ w'.cell? ⟨w8.heap.size, 3, none⟩ = some (.string s2) ∧ w'.cell? ⟨w8.heap.size, 4, none⟩ = some (.slice aG x2.length cG) ∧ w'.cell? ⟨w8.heap.size, 5, none⟩ = some (.string d2)) ∧ (w'.cell? ⟨w10.heap.size, 0, none⟩ = some (.int .i64 o1) ∧ w'.cell? ⟨w10.heap.size, 1, none⟩ = some (.int .i64 lo2) ∧ w'.cell? ⟨w10.heap.size, 2, none⟩ = some (.int .i64 v2) ∧ w'.cell? ⟨w10.heap.size, 3, none⟩ = some (.string s2) ∧ w'.cell? ⟨w10.heap.size, 4, none⟩ = some (.slice aH x2.length cH) ∧ w'.cell? ⟨w10.heap.size, 5, none⟩ = some (.string d2)) ∧ (w'.cell? ⟨w12.heap.size, 0, none⟩ = some (.int .i64 vo4) ∧ w'.cell? ⟨w12.heap.size, 1, none⟩ = some (.int .i64 lo4) ∧ w'.cell? ⟨w12.heap.size, 2, none⟩ = some (.int .i64 v4) ∧ w'.cell? ⟨w12.heap.size, 3, none⟩ = some (.string s4) ∧ w'.cell? ⟨w12.heap.size, 4, none⟩ = some (.slice aI x4.length cI) ∧ w'.cell? ⟨w12.heap.size, 5, none⟩ = some (.string d4)) ∧ (w'.cell? ⟨w12.heap.size + 1, 0, none⟩ = some (.int .i64 vo5) ∧ w'.cell? ⟨w12.heap.size + 1, 1, none⟩ = some (.int .i64 lo5) ∧ w'.cell? ⟨w12.heap.size + 1, 2, none⟩ = some (.int .i64 v5) ∧ w'.cell? ⟨w12.heap.size + 1, 3, none⟩ = some (.string s5) ∧ w'.cell? ⟨w12.heap.size + 1, 4, none⟩ = some (.slice aJ x5.length cJ) ∧ w'.cell? ⟨w12.heap.size + 1, 5, none⟩ = some (.string d5))) (by kernel_rfl) (unhide K _ bA) (fun hHeld => ?_)
  refine tk 0 70 (v := ?_) rfl (hy := .inl ⟨by rfl, ?_⟩) (h := ?_); rotate_left
  ·intro w hSw; (try dsimp only at hSw); go_simp; (try with_reducible rfl)
  simp only [ps]
  refine tk 1 71 (v := ?_) rfl (hy := .inl ⟨by rfl, ?_⟩) (h := ?_); rotate_left
  ·intro w hSw; (try dsimp only at hSw); go_simp; (try with_reducible rfl)
  simp only [ps]
  refine tk 2 72 (v := ?_) rfl (hy := .inl ⟨by rfl, ?_⟩) (h := ?_); rotate_left
  ·intro w hSw; (try dsimp only at hSw); go_simp; (try with_reducible rfl)
  simp only [ps]
  refine tk 3 73 (v := ?_) rfl (hy := .inl ⟨by rfl, ?_⟩) (h := ?_); rotate_left
  ·intro w hSw; (try dsimp only at hSw); go_simp; (try with_reducible rfl)
  simp only [ps]
  refine ready_at (i := 4) rfl (by kernel_rfl) (fun KK hKK => ?_)
  go_simp
  have hgo := bA
  refine (unhide SS _ ((unhide O).below hgo (Nat.le_refl _)) ((unhide P).below hgo (Nat.le_refl _))).mono ?_
  rintro e wz12_1 ⟨uK, rfl, OK, bb⟩
  have bz1 : Below w16.heap.size w16 wz12_1 := bA.trans (bb.mono bA.size)
  replace OK := OI.ri OK (by omega)
  obtain ⟨aK, cK, rfl⟩ := OK.form
  replace OK := hide OK
  clear bA hgo bb
  clear hHeld
  refine hKK.out _ _ (unhide K _ bz1) (fun hHeld => ?_)
  clear hKK KK
  refine ready_at (i := 5) rfl (by kernel_rfl) (fun KK hKK => ?_)
  go_simp
  have hgo := bz1
  refine (unhide SA _ _ _ _ _ ((unhide OA).below hgo (Nat.le_refl _)) (unhide OK)).mono ?_
  rintro e wz12_2 ⟨rfl, bb⟩
  have bz2 : Below w16.heap.size w16 wz12_2 := bz1.trans (bb.mono bz1.size)
  clear OK
  clear bz1 hgo bb
  clear hHeld
  refine hKK.out _ _ (unhide K _ bz2) (fun hHeld => ?_)
  clear hKK KK
  refine tk 6 76 (v := ?_) rfl (hy := .inl ⟨by rfl, ?_⟩) (h := ?_); rotate_left
  ·intro w hSw; (try dsimp only at hSw); go_simp; (try with_reducible rfl)
  simp only [ps]
  refine tk 7 77 (v := ?_) rfl (hy := .inl ⟨by rfl, ?_⟩) (h := ?_); rotate_left
  ·intro w hSw; (try dsimp only at hSw); go_simp; (try with_reducible rfl)
  simp only [ps]
  refine tk 8 78 (v := ?_) rfl (hy := .inl ⟨by rfl, ?_⟩) (h := ?_); rotate_left
  ·intro w hSw; (try dsimp only at hSw); go_simp; (try with_reducible rfl)
  simp only [ps]
  refine tk 9 79 (v := ?_) rfl (hy := .inl ⟨by rfl, ?_⟩) (h := ?_); rotate_left
  ·intro w hSw; (try dsimp only at hSw); go_simp; (try with_reducible rfl)
  simp only [ps]
  refine tk 10 80 (v := ?_) rfl (hy := .inl ⟨by rfl, ?_⟩) (h := ?_); rotate_left
  ·intro w hSw; (try dsimp only at hSw); go_simp; (try with_reducible rfl)
  simp only [ps]
  refine tk 11 81 (v := ?_) rfl (hy := .inl ⟨by rfl, ?_⟩) (h := ?_); rotate_left
  ·intro w hSw; (try dsimp only at hSw); go_simp; (try with_reducible rfl)
  simp only [ps]
  refine tk 12 82 (v := ?_) rfl (hy := .inl ⟨by rfl, ?_⟩) (h := ?_); rotate_left
  ·intro w hSw; (try dsimp only at hSw); go_simp; (try with_reducible rfl)
  simp only [ps]
  refine tk 13 83 (v := ?_) rfl (hy := .inl ⟨by rfl, ?_⟩) (h := ?_); rotate_left
  ·intro w hSw; (try dsimp only at hSw); go_simp; (try with_reducible rfl)
  simp only [ps]
  refine tk 14 84 (v := ?_) rfl (hy := .inl ⟨by rfl, ?_⟩) (h := ?_); rotate_left
  ·intro w hSw; (try dsimp only at hSw); go_simp; (try with_reducible rfl)
  simp only [ps]
  refine ready_at (i := 15) rfl (by kernel_rfl) (fun KK hKK => ?_)
  go_simp
  have hgo := bz2
  refine (unhide SE _ _ _ _ _ ((unhide OG).below hgo (Nat.le_refl _)) ((unhide OH).below hgo (Nat.le_refl _))).mono ?_
  rintro e wz12_3 ⟨rfl, bb⟩
  have bz3 : Below w16.heap.size w16 wz12_3 := bz2.trans (bb.mono bz2.size)
  clear bz2 hgo bb
  clear hHeld
  refine hKK.out _ _ (unhide K _ bz3) (fun hHeld => ?_)
  clear hKK KK
  refine tk 16 86 (v := ?_) rfl (hy := .inl ⟨by rfl, ?_⟩) (h := ?_); rotate_left
  ·intro w hSw; (try dsimp only at hSw); go_simp; (try with_reducible rfl)
  simp only [ps]
  refine tk 17 87 (v := ?_) rfl (hy := .inl ⟨by rfl, ?_⟩) (h := ?_); rotate_left
  ·intro w hSw; (try dsimp only at hSw); go_simp; (try with_reducible rfl)
  simp only [ps]
  refine tk 18 88 (v := ?_) rfl (hy := .inl ⟨by rfl, ?_⟩) (h := ?_); rotate_left
  ·intro w hSw; (try dsimp only at hSw); go_simp; (try with_reducible rfl)
  simp only [ps]
  refine tk 19 89 (v := ?_) rfl (hy := .inl ⟨by rfl, ?_⟩) (h := ?_); rotate_left
  ·intro w hSw; (try dsimp only at hSw); go_simp; (try with_reducible rfl)
  simp only [ps]
  refine tk 20 90 (v := ?_) rfl (hy := .inl ⟨by rfl, ?_⟩) (h := ?_); rotate_left
  ·intro w hSw; (try dsimp only at hSw); go_simp; (try with_reducible rfl)
  simp only [ps]
  refine tk 22 92 (v := ?_) rfl (hy := .inl ⟨by rfl, ?_⟩) (h := ?_); rotate_left
  ·intro w hSw; (try dsimp only at hSw); go_simp; (try with_reducible rfl)
  simp only [ps]
  refine tk 23 93 (v := ?_) rfl (hy := .inl ⟨by rfl, ?_⟩) (h := ?_); rotate_left
  ·intro w hSw; (try dsimp only at hSw); go_simp; (try with_reducible rfl)
  simp only [ps]
  refine ready_at (i := 21) rfl (by kernel_rfl) (fun KK hKK => ?_)
  go_simp
  have hgo := bz3
  refine (unhide IX _ ((unhide O4).below hgo (Nat.le_refl _)) ((unhide O5).below hgo (Nat.le_refl _))).mono ?_
  rintro e wz12_4 ⟨rfl, bb⟩
  have bz4 : Below w16.heap.size w16 wz12_4 := bz3.trans (bb.mono bz3.size)
  clear bz3 hgo bb
  clear hHeld
  refine hKK.out _ _ (unhide K _ bz4) (fun hHeld => ?_)
  clear hKK KK
  refine ready_at (i := 24) rfl (by kernel_rfl) (fun KK hKK => ?_)
  go_simp
  have hgo := bz4
  refine (unhide SX _ ((unhide O4).below hgo (Nat.le_refl _)) ((unhide O5).below hgo (Nat.le_refl _))).mono ?_
  rintro e wz12_5 ⟨rfl, bb⟩
  have bz5 : Below w16.heap.size w16 wz12_5 := bz4.trans (bb.mono bz4.size)
  clear bz4 hgo bb
  clear hHeld
  refine hKK.out _ _ (unhide K _ bz5) (fun hHeld => ?_)
  clear hKK KK
  refine tk 25 95 (v := ?_) rfl (hy := .inl ⟨by rfl, ?_⟩) (h := ?_); rotate_left
  ·intro w hSw; (try dsimp only at hSw); go_simp; (try with_reducible rfl)
  simp only [ps]
  refine tk 26 96 (v := ?_) rfl (hy := .inl ⟨by rfl, ?_⟩) (h := ?_); rotate_left
  ·intro w hSw; (try dsimp only at hSw); go_simp; (try with_reducible rfl)
  simp only [ps]
  refine tk 27 97 (v := ?_) rfl (hy := .inl ⟨by rfl, ?_⟩) (h := ?_); rotate_left
  ·intro w hSw; (try dsimp only at hSw); go_simp; (try with_reducible rfl)
  simp only [ps]
  refine tk 28 98 (v := ?_) rfl (hy := .inl ⟨by rfl, ?_⟩) (h := ?_); rotate_left
  ·intro w hSw; (try dsimp only at hSw); go_simp; (try with_reducible rfl)
  simp only [ps]
  refine tk 29 99 (v := ?_) rfl (hy := .inl ⟨by rfl, ?_⟩) (h := ?_); rotate_left
  ·intro w hSw; (try dsimp only at hSw); go_simp; (try with_reducible rfl)
  simp only [ps]
  refine tk 31 101 (v := ?_) rfl (hy := .inl ⟨by rfl, ?_⟩) (h := ?_); rotate_left
  ·intro w hSw; (try dsimp only at hSw); go_simp; (try with_reducible rfl)
  simp only [ps]
  refine tk 32 102 (v := ?_) rfl (hy := .inl ⟨by rfl, ?_⟩) (h := ?_); rotate_left
  ·intro w hSw; (try dsimp only at hSw); go_simp; (try with_reducible rfl)
  simp only [ps]
  refine ready_at (i := 30) rfl (by kernel_rfl) (fun KK hKK => ?_)
  go_simp
  have hgo := bz5
  refine (unhide IK _ ((unhide O).below hgo (Nat.le_refl _)) (unhide HE _ (Bw16.trans (hgo.mono Bw16.size)))).mono ?_
  rintro e wz12_6 ⟨rfl, bb⟩
  have bz6 : Below w16.heap.size w16 wz12_6 := bz5.trans (bb.mono bz5.size)
  clear bz5 hgo bb
  clear hHeld
  refine hKK.out _ _ (unhide K _ bz6) (fun hHeld => ?_)
  clear hKK KK
  refine ready_at (i := 33) rfl (by kernel_rfl) (fun KK hKK => ?_)
  go_simp
  have hgo := bz6
  refine (unhide SK _ ((unhide O).below hgo (Nat.le_refl _))).mono ?_
  rintro e wz12_7 ⟨rfl, bb⟩
  have bz7 : Below w16.heap.size w16 wz12_7 := bz6.trans (bb.mono bz6.size)
  clear bz6 hgo bb
  clear hHeld
  refine hKK.out _ _ (unhide K _ bz7) (fun hHeld => ?_)
  clear hKK KK
  refine tk 34 104 (v := ?_) rfl (hy := .inl ⟨by rfl, ?_⟩) (h := ?_); rotate_left
  ·intro w hSw; (try dsimp only at hSw); go_simp; (try with_reducible rfl)
  simp only [ps]
  refine tk 35 105 (v := ?_) rfl (hy := .inl ⟨by rfl, ?_⟩) (h := ?_); rotate_left
  ·intro w hSw; (try dsimp only at hSw); go_simp; (try with_reducible rfl)
  simp only [ps]
  refine tk 36 106 (v := ?_) rfl (hy := .inl ⟨by rfl, ?_⟩) (h := ?_); rotate_left
  ·intro w hSw; (try dsimp only at hSw); go_simp; (try with_reducible rfl)
  simp only [ps]
  refine tk 37 107 (v := ?_) rfl (hy := .inl ⟨by rfl, ?_⟩) (h := ?_); rotate_left
  ·intro w hSw; (try dsimp only at hSw); go_simp; (try with_reducible rfl)
  simp only [ps]
  refine tk 38 108 (v := ?_) rfl (hy := .inl ⟨by rfl, ?_⟩) (h := ?_); rotate_left
  ·intro w hSw; (try dsimp only at hSw); go_simp; (try with_reducible rfl)
  simp only [ps]
  refine tk 39 109 (v := ?_) rfl (hy := .inl ⟨by rfl, ?_⟩) (h := ?_); rotate_left
  ·intro w hSw; (try dsimp only at hSw); go_simp; (try with_reducible rfl)
  simp only [ps]
  refine tk 40 110 (v := ?_) rfl (hy := .inl ⟨by rfl, ?_⟩) (h := ?_); rotate_left
  ·intro w hSw; (try dsimp only at hSw); go_simp; (try with_reducible rfl)
  simp only [ps]
  refine tk 41 111 (v := ?_) rfl (hy := .inl ⟨by rfl, ?_⟩) (h := ?_); rotate_left
  ·intro w hSw; (try dsimp only at hSw); go_simp; (try with_reducible rfl)
  simp only [ps]
  refine tk 42 112 (v := ?_) rfl (hy := .inl ⟨by rfl, ?_⟩) (h := ?_); rotate_left
  ·intro w hSw; (try dsimp only at hSw); go_simp; (try with_reducible rfl)
  simp only [ps]
  refine tk 43 113 (v := ?_) rfl (hy := .inl ⟨by rfl, ?_⟩) (h := ?_); rotate_left
  ·intro w hSw; (try dsimp only at hSw); go_simp; (try with_reducible rfl)
  simp only [ps]
  refine tk 44 114 (v := ?_) rfl (hy := .inl ⟨by rfl, ?_⟩) (h := ?_); rotate_left
  ·intro w hSw; (try dsimp only at hSw); go_simp; (try with_reducible rfl)
  simp only [ps]
  refine tk 45 115 (v := ?_) rfl (hy := .inl ⟨by rfl, ?_⟩) (h := ?_); rotate_left
  ·intro w hSw; (try dsimp only at hSw); go_simp; (try with_reducible rfl)
  simp only [ps]
  refine tk 46 116 (v := ?_) rfl (hy := .inl ⟨by rfl, ?_⟩) (h := ?_); rotate_left
  ·intro w hSw; (try dsimp only at hSw); go_simp; (try with_reducible rfl)
  simp only [ps]
  refine tk 47 117 (v := ?_) rfl (hy := .inl ⟨by rfl, ?_⟩) (h := ?_); rotate_left
  ·intro w hSw; (try dsimp only at hSw); go_simp; (try with_reducible rfl)
  simp only [ps]
  refine tk 48 118 (v := ?_) rfl (hy := .inl ⟨by rfl, ?_⟩) (h := ?_); rotate_left
  ·intro w hSw; (try dsimp only at hSw); go_simp; (try with_reducible rfl)
  simp only [ps]
  refine tk 49 119 (v := ?_) rfl (hy := .inl ⟨by rfl, ?_⟩) (h := ?_); rotate_left
  ·intro w hSw; (try dsimp only at hSw); go_simp; (try with_reducible rfl)
  simp only [ps]
  refine tk 51 121 (v := ?_) rfl (hy := .inl ⟨by rfl, ?_⟩) (h := ?_); rotate_left
  ·intro w hSw; (try dsimp only at hSw); go_simp; (try with_reducible rfl)
  simp only [ps]
  refine ready_at (i := 50) rfl (by kernel_rfl) (fun KK hKK => ?_)
  go_simp
  have hgo := bz7
  refine (unhide I1 _ ((unhide O2).below hgo (Nat.le_refl _)) ((unhide P2).below hgo (Nat.le_refl _)) (unhide HE _ (Bw16.trans (hgo.mono Bw16.size)))).mono ?_
  rintro e wz12_8 ⟨rfl, bb⟩
  have bz8 : Below w16.heap.size w16 wz12_8 := bz7.trans (bb.mono bz7.size)
  clear bz7 hgo bb
  clear hHeld
  refine hKK.out _ _ (unhide K _ bz8) (fun hHeld => ?_)
  clear hKK KK
  refine tk 52 122 (v := ?_) rfl (hy := .inl ⟨by rfl, ?_⟩) (h := ?_); rotate_left
  ·intro w hSw; (try dsimp only at hSw); go_simp; (try with_reducible rfl)
  simp only [ps]
  refine tk 53 123 (v := ?_) rfl (hy := .inl ⟨by rfl, ?_⟩) (h := ?_); rotate_left
  ·intro w hSw; (try dsimp only at hSw); go_simp; (try with_reducible rfl)
  simp only [ps]
  refine tk 54 124 (v := ?_) rfl (hy := .inl ⟨by rfl, ?_⟩) (h := ?_); rotate_left
  ·intro w hSw; (try dsimp only at hSw); go_simp; (try with_reducible rfl)
  simp only [ps]
  refine ready_at (i := 55) rfl (by kernel_rfl) (fun KK hKK => ?_)
  go_simp
  have hgo := bz8
  refine (implSafeNew _).mono ?_
  rintro e wz12_9 ⟨rfl, bb⟩
  have bz9 : Below w16.heap.size w16 wz12_9 := bz8.trans (bb.mono bz8.size)
  clear bz8 hgo bb
  clear hHeld
  refine hKK.out _ _ (unhide K _ bz9) (fun hHeld => ?_)
  clear hKK KK
  refine ready_at (i := 56) rfl (by kernel_rfl) (fun KK hKK => ?_)
  go_simp
  have hgo := bz9
  refine (specSafeNew _).mono ?_
  rintro e wz12_10 ⟨rfl, bb⟩
  have bz10 : Below w16.heap.size w16 wz12_10 := bz9.trans (bb.mono bz9.size)
  clear bz9 hgo bb
  clear hHeld
  refine hKK.out _ _ (unhide K _ bz10) (fun hHeld => ?_)
  clear hKK KK
  refine ready_at (i := 57) rfl (by kernel_rfl) (fun KK hKK => ?_)
  go_simp
  have hgo := bz10
  refine (unhide SN _ (unhide NR _)).mono ?_
  rintro e wz12_11 ⟨rfl, bb⟩
  have bz11 : Below w16.heap.size w16 wz12_11 := bz10.trans (bb.mono bz10.size)
  clear bz10 hgo bb
  clear hHeld
  refine hKK.out _ _ (unhide K _ bz11) (fun hHeld => ?_)
  clear hKK KK
  refine tk 58 128 (v := ?_) rfl (hy := .inl ⟨by rfl, ?_⟩) (h := ?_); rotate_left
  ·intro w hSw; (try dsimp only at hSw); go_simp; (try with_reducible rfl)
  simp only [ps]
  refine tk 59 129 (v := ?_) rfl (hy := .inl ⟨by rfl, ?_⟩) (h := ?_); rotate_left
  ·intro w hSw; (try dsimp only at hSw); go_simp; (try with_reducible rfl)
  simp only [ps]
  clear hHeld
  refine wpAnyH_done (by kernel_rfl) ?_ _
  refine NoPanic.normal ?_
  have bb := bz11
  have Bwz12_11 := Bw16.trans (bb.mono Bw16.size)
  have swz12_11 := bb.size
  replace LC := LC.below bb LC.lt
  replace LS := LS.below bb LS.lt
  replace LQ := LQ.below bb LQ.lt
  replace LA := LA.below bb LA.lt
  replace LD := LD.below bb LD.lt
  replace LT := LT.below bb LT.lt
  replace LB := LB.below bb LB.lt
  replace LE := LE.below bb LE.lt
  replace LF := LF.below bb LF.lt
  replace LX := LX.below bb LX.lt
  replace LY := LY.below bb LY.lt
  clear Bw16
  replace O := hide ((unhide O).below bb (Nat.le_refl _))
  replace P := hide ((unhide P).below bb (Nat.le_refl _))
  replace OA := hide ((unhide OA).below bb (Nat.le_refl _))
  replace O2 := hide ((unhide O2).below bb (Nat.le_refl _))
  replace P2 := hide ((unhide P2).below bb (Nat.le_refl _))
  replace OG := hide ((unhide OG).below bb (Nat.le_refl _))
  replace OH := hide ((unhide OH).below bb (Nat.le_refl _))
  replace O4 := hide ((unhide O4).below bb (Nat.le_refl _))
  replace O5 := hide ((unhide O5).below bb (Nat.le_refl _))
  clear bb bz11 K
  clear SS SE IX SX SK SN I1 ebx emm emm' eb1 eis eok
  clear OH O4 O5 O2
  clear LF LX LY
  as_aux_lemma =>
   cases is
   ·clear EX H1 H2 HS
    as_aux_lemma =>
     cases ok
     ·clear I2 HM HT ho1
      as_aux_lemma =>
       have cLC0 := LC.cell 0 rfl
       have cLC1 := LC.cell 1 rfl
       have cLS0 := LS.cell 0 rfl
       have cLS1 := LS.cell 1 rfl
       have cLS2 := LS.cell 2 rfl
       have cLS3 := LS.cell 3 rfl
       have cLS4 := LS.cell 4 rfl
       have cLS5 := LS.cell 5 rfl
       go_wp2_with fail
       refine (unhide IK _ (unhide O) (unhide HE _ Bwz12_11)).mono ?_
       rintro _ w17 ⟨rfl, bb⟩
       clear cLC0 cLC1 cLS0 cLS1 cLS2 cLS3 cLS4 cLS5
       have Bw17 := Bwz12_11.trans (bb.mono Bwz12_11.size)
       have sw17 := bb.size
       replace LC := LC.below bb LC.lt
       replace LS := LS.below bb LS.lt
       replace LQ := LQ.below bb LQ.lt
       replace LA := LA.below bb LA.lt
       replace LD := LD.below bb LD.lt
       replace LT := LT.below bb LT.lt
       replace LB := LB.below bb LB.lt
       replace LE := LE.below bb LE.lt
       clear Bwz12_11
       replace O := hide ((unhide O).below bb (Nat.le_refl _))
       replace P := hide ((unhide P).below bb (Nat.le_refl _))
       replace OA := hide ((unhide OA).below bb (Nat.le_refl _))
       replace P2 := hide ((unhide P2).below bb (Nat.le_refl _))
       replace OG := hide ((unhide OG).below bb (Nat.le_refl _))
       clear bb
       clear IK
       cases b1
       ·have SM := hide fun w' (h : RI w' (.slice aA X1.length cA) X1) (h' : RI w' (.slice aO xs.length cO) xs) => implSafeSame vo L1 V1 T1 aA cA X1 D1 vo lo v s aO cO xs d w' h h'
        rw [unhide FN rfl] at SM
        clear FN FY
        have cLA0 := LA.cell 0 rfl
        have cLA1 := LA.cell 1 rfl
        have cLA2 := LA.cell 2 rfl
        have cLA3 := LA.cell 3 rfl
        have cLA4 := LA.cell 4 rfl
        have cLA5 := LA.cell 5 rfl
        have cLS0 := LS.cell 0 rfl
        have cLS1 := LS.cell 1 rfl
        have cLS2 := LS.cell 2 rfl
        have cLS3 := LS.cell 3 rfl
        have cLS4 := LS.cell 4 rfl
        have cLS5 := LS.cell 5 rfl
        go_wp2_with fail
        refine (unhide SM _ (unhide OA) (unhide O)).mono ?_
        rintro _ w18 ⟨rfl, bb⟩
        clear cLA0 cLA1 cLA2 cLA3 cLA4 cLA5 cLS0 cLS1 cLS2 cLS3 cLS4 cLS5
        have Bw18 := Bw17.trans (bb.mono Bw17.size)
        have sw18 := bb.size
        replace LC := LC.below bb LC.lt
        replace LS := LS.below bb LS.lt
        replace LQ := LQ.below bb LQ.lt
        replace LA := LA.below bb LA.lt
        replace LD := LD.below bb LD.lt
        replace LT := LT.below bb LT.lt
        replace LB := LB.below bb LB.lt
        replace LE := LE.below bb LE.lt
        clear Bw17
        replace O := hide ((unhide O).below bb (Nat.le_refl _))
        replace P := hide ((unhide P).below bb (Nat.le_refl _))
        replace OA := hide ((unhide OA).below bb (Nat.le_refl _))
        replace P2 := hide ((unhide P2).below bb (Nat.le_refl _))
        replace OG := hide ((unhide OG).below bb (Nat.le_refl _))
        clear bb
        go_wp2
        go_ret
        exact ⟨rfl, Bw18⟩
       ·have cLC0 := LC.cell 0 rfl
        have cLC1 := LC.cell 1 rfl
        have cLQ0 := LQ.cell 0 rfl
        have cLQ1 := LQ.cell 1 rfl
        have cLQ2 := LQ.cell 2 rfl
        go_wp2_with fail
        refine (unhide QK _ (unhide P) (unhide HE _ Bw17)).mono ?_
        rintro _ w18 ⟨rfl, bb⟩
        clear cLC0 cLC1 cLQ0 cLQ1 cLQ2
        have Bw18 := Bw17.trans (bb.mono Bw17.size)
        have sw18 := bb.size
        replace LC := LC.below bb LC.lt
        replace LS := LS.below bb LS.lt
        replace LQ := LQ.below bb LQ.lt
        replace LA := LA.below bb LA.lt
        replace LD := LD.below bb LD.lt
        replace LT := LT.below bb LT.lt
        replace LB := LB.below bb LB.lt
        replace LE := LE.below bb LE.lt
        clear Bw17
        replace O := hide ((unhide O).below bb (Nat.le_refl _))
        replace P := hide ((unhide P).below bb (Nat.le_refl _))
        replace OA := hide ((unhide OA).below bb (Nat.le_refl _))
        replace P2 := hide ((unhide P2).below bb (Nat.le_refl _))
        replace OG := hide ((unhide OG).below bb (Nat.le_refl _))
        clear bb
        clear QK
        cases b2
        ·have SM := hide fun w' (h : RI w' (.slice aA X1.length cA) X1) (h' : RI w' (.slice aO xs.length cO) xs) => implSafeSame vo L1 V1 T1 aA cA X1 D1 vo lo v s aO cO xs d w' h h'
         rw [unhide FN rfl] at SM
         clear FN FY
         have cLA0 := LA.cell 0 rfl
         have cLA1 := LA.cell 1 rfl
         have cLA2 := LA.cell 2 rfl
         have cLA3 := LA.cell 3 rfl
         have cLA4 := LA.cell 4 rfl
         have cLA5 := LA.cell 5 rfl
         have cLS0 := LS.cell 0 rfl
         have cLS1 := LS.cell 1 rfl
         have cLS2 := LS.cell 2 rfl
         have cLS3 := LS.cell 3 rfl
         have cLS4 := LS.cell 4 rfl
         have cLS5 := LS.cell 5 rfl
         go_wp2_with fail
         refine (unhide SM _ (unhide OA) (unhide O)).mono ?_
         rintro _ w19 ⟨rfl, bb⟩
         clear cLA0 cLA1 cLA2 cLA3 cLA4 cLA5 cLS0 cLS1 cLS2 cLS3 cLS4 cLS5
         have Bw19 := Bw18.trans (bb.mono Bw18.size)
         have sw19 := bb.size
         replace LC := LC.below bb LC.lt
         replace LS := LS.below bb LS.lt
         replace LQ := LQ.below bb LQ.lt
         replace LA := LA.below bb LA.lt
         replace LD := LD.below bb LD.lt
         replace LT := LT.below bb LT.lt
         replace LB := LB.below bb LB.lt
         replace LE := LE.below bb LE.lt
         clear Bw18
         replace O := hide ((unhide O).below bb (Nat.le_refl _))
         replace P := hide ((unhide P).below bb (Nat.le_refl _))
         replace OA := hide ((unhide OA).below bb (Nat.le_refl _))
         replace P2 := hide ((unhide P2).below bb (Nat.le_refl _))
         replace OG := hide ((unhide OG).below bb (Nat.le_refl _))
         clear bb
         go_wp2
         go_ret
         exact ⟨rfl, Bw19⟩
        ·obtain ⟨y1, y2, y3, y4, y5, y6, y7, y8, y9, y10, y11⟩ := unhide FY rfl
         clear FY FN
         have IK2 := hide fun w' (h : RI w' (.slice aA X1.length cA) X1) (e : Env w') => implSafeOk n f vo L1 V1 T1 aA cA X1 D1 w' (by omega) (by omega) e h
         rw [y1] at IK2
         have EX2 := hide fun w' (e : Env w') => implExtends D1 d w' (by omega) (by omega) e
         rw [y5] at EX2
         have IS2 := hide fun w' (h : RI w' (.slice aA X1.length cA) X1) (h' : RI w' (.slice aP ys.length cP) ys) (e : Env w') => implSee n f vo L1 V1 T1 aA cA X1 D1 v' s' aP cP ys w' (by omega) (by omega) (by omega) e h h'
         simp only [y6, y7, y8, y9, y10, y11] at IS2
         have k1 : decide (lo ≤ L1) = true := by simpa using y2
         have k2 : decide (v ≤ V1) = true := by simpa using y3
         have k3 : decide (v' ≤ V1) = true := by simpa using y4
         clear y1 y2 y3 y4 y5 y6 y7 y8 y9 y10 y11
         have K : Hid (∀ w', Below w18.heap.size w18 w' → (fun w' => Below w18.heap.size w18 w' ∧ (w'.cell? ⟨w2.heap.size, 0, none⟩ = some (.int .i64 n) ∧ w'.cell? ⟨w2.heap.size, 1, none⟩ = some (.int .i64 f)) ∧ (w'.cell? ⟨w2.heap.size + 1, 0, none⟩ = some (.int .i64 vo) ∧ w'.cell? ⟨w2.heap.size + 1, 1, none⟩ = some (.int .i64 lo) ∧ w'.cell? ⟨w2.heap.size + 1, 2, none⟩ = some (.int .i64 v) ∧ w'.cell? ⟨w2.heap.size + 1, 3, none⟩ = some (.string s) ∧ w'.cell? ⟨w2.heap.size + 1, 4, none⟩ = some (.slice aO xs.length cO) ∧ w'.cell? ⟨w2.heap.size + 1, 5, none⟩ = some (.string d)) ∧ (w'.cell? ⟨w2.heap.size + 1 + 1, 0, none⟩ = some (.int .i64 v') ∧ w'.cell? ⟨w2.heap.size + 1 + 1, 1, none⟩ = some (.string s') ∧ w'.cell? ⟨w2.heap.size + 1 + 1, 2, none⟩ = some (.slice aP ys.length cP)) ∧ (w'.cell? ⟨w4.heap.size, 0, none⟩ = some (.int .i64 vo) ∧ w'.cell? ⟨w4.heap.size, 1, none⟩ = some (.int .i64 L1) ∧ w'.cell? ⟨w4.heap.size, 2, none⟩ = some (.int .i64 V1) ∧ w'.cell? ⟨w4.heap.size, 3, none⟩ = some (.string T1) ∧ w'.cell? ⟨w4.heap.size, 4, none⟩ = some (.slice aA X1.length cA) ∧ w'.cell? ⟨w4.heap.size, 5, none⟩ = some (.string D1))) w') := hide fun w' hb' => ⟨hb', ⟨(LC.below hb' LC.lt).cell 0 rfl, (LC.below hb' LC.lt).cell 1 rfl⟩, ⟨(LS.below hb' LS.lt).cell 0 rfl, (LS.below hb' LS.lt).cell 1 rfl, (LS.below hb' LS.lt).cell 2 rfl, (LS.below hb' LS.lt).cell 3 rfl, (LS.below hb' LS.lt).cell 4 rfl, (LS.below hb' LS.lt).cell 5 rfl⟩, ⟨(LQ.below hb' LQ.lt).cell 0 rfl, (LQ.below hb' LQ.lt).cell 1 rfl, (LQ.below hb' LQ.lt).cell 2 rfl⟩, ⟨(LA.below hb' LA.lt).cell 0 rfl, (LA.below hb' LA.lt).cell 1 rfl, (LA.below hb' LA.lt).cell 2 rfl, (LA.below hb' LA.lt).cell 3 rfl, (LA.below hb' LA.lt).cell 4 rfl, (LA.below hb' LA.lt).cell 5 rfl⟩⟩
         go_upto_region 20 with fail
         have bA : Below w18.heap.size w18 w18.drew := Below.drew (Below.refl _ _)
         refine wp_region_noPanic ?_
         refine wp_region_held_drew (S := fun w' => Below w18.heap.size w18 w' ∧ (w'.cell? ⟨w2.heap.size, 0, none⟩ = some (.int .i64 n) ∧ w'.cell? ⟨w2.heap.size, 1, none⟩ = some (.int .i64 f)) ∧ (w'.cell? ⟨w2.heap.size + 1, 0, none⟩ = some (.int .i64 vo) ∧ w'.cell? ⟨w2.heap.size + 1, 1, none⟩ = some (.int .i64 lo) ∧ w'.cell? ⟨w2.heap.size + 1, 2, none⟩ = some (.int .i64 v) ∧ w'.cell? ⟨w2.heap.size + 1, 3, none⟩ = some (.string s) ∧ w'.cell? ⟨w2.heap.size + 1, 4, none⟩ = some (.slice aO xs.length cO) ∧ w'.cell? ⟨w2.heap.size + 1, 5, none⟩ = some (.string d)) ∧ (w'.cell? ⟨w2.heap.size + 1 + 1, 0, none⟩ = some (.int .i64 v') ∧ w'.cell? ⟨w2.heap.size + 1 + 1, 1, none⟩ = some (.string s') ∧ w'.cell? ⟨w2.heap.size + 1 + 1, 2, none⟩ = some (.slice aP ys.length cP)) ∧ (w'.cell? ⟨w4.heap.size, 0, none⟩ = some (.int .i64 vo) ∧ w'.cell? ⟨w4.heap.size, 1, none⟩ = some (.int .i64 L1) ∧ w'.cell? ⟨w4.heap.size, 2, none⟩ = some (.int .i64 V1) ∧ w'.cell? ⟨w4.heap.size, 3, none⟩ = some (.string T1) ∧ w'.cell? ⟨w4.heap.size, 4, none⟩ = some (.slice aA X1.length cA) ∧ w'.cell? ⟨w4.heap.size, 5, none⟩ = some (.string D1))) (by kernel_rfl) (unhide K _ bA) (fun hHeld => ?_)
         refine tk 0 172 (v := ?_) rfl (hy := .inl ⟨by rfl, ?_⟩) (h := ?_); rotate_left
         ·intro w hSw; (try dsimp only at hSw); go_simp; (try with_reducible rfl)
         simp only [ps]
         refine tk 1 173 (v := ?_) rfl (hy := .inl ⟨by rfl, ?_⟩) (h := ?_); rotate_left
         ·intro w hSw; (try dsimp only at hSw); go_simp; (try with_reducible rfl)
         simp only [ps]
         refine ready_at (i := 2) rfl (by kernel_rfl) (fun KK hKK => ?_)
         go_simp
         have hgo := bA
         refine (unhide IK2 _ ((unhide OA).below hgo (Nat.le_refl _)) (unhide HE _ (Bw18.trans (hgo.mono Bw18.size)))).mono ?_
         rintro e wz20_1 ⟨rfl, bb⟩
         have bz1 : Below w18.heap.size w18 wz20_1 := bA.trans (bb.mono bA.size)
         clear bA hgo bb
         clear hHeld
         refine hKK.out _ _ (unhide K _ bz1) (fun hHeld => ?_)
         clear hKK KK
         refine tk 3 175 (v := ?_) rfl (hy := .inl ⟨by rfl, ?_⟩) (h := ?_); rotate_left
         ·intro w hSw; (try dsimp only at hSw); go_simp; (try with_reducible rfl)
         simp only [ps]
         refine tk 4 176 (v := ?_) rfl (hy := .inl ⟨by rfl, ?_⟩) (h := ?_); rotate_left
         ·intro w hSw; (try dsimp only at hSw); go_simp; (try with_reducible rfl)
         simp only [ps]
         refine tk 6 178 (v := ?_) rfl (hy := .inl ⟨by rfl, ?_⟩) (h := ?_); rotate_left
         ·intro w hSw; (try dsimp only at hSw); go_simp; (try with_reducible rfl)
         simp only [ps]
         refine tk 5 177 (v := ?_) rfl (hy := .inl ⟨by rfl, ?_⟩) (h := ?_); rotate_left
         ·intro w hSw; (try dsimp only at hSw); go_simp; (try with_reducible rfl)
         simp only [ps]
         refine tk 7 179 (v := ?_) rfl (hy := .inl ⟨by rfl, ?_⟩) (h := ?_); rotate_left
         ·intro w hSw; (try dsimp only at hSw); go_simp; (try with_reducible rfl)
         simp only [ps]
         refine tk 8 180 (v := ?_) rfl (hy := .inl ⟨by rfl, ?_⟩) (h := ?_); rotate_left
         ·intro w hSw; (try dsimp only at hSw); go_simp; (try with_reducible rfl)
         simp only [ps]
         refine tk 9 181 (v := ?_) rfl (hy := .inl ⟨by rfl, ?_⟩) (h := ?_); rotate_left
         ·intro w hSw; (try dsimp only at hSw); go_simp; (try with_reducible rfl)
         simp only [ps]
         refine tk 10 182 (v := ?_) rfl (hy := .inl ⟨by rfl, ?_⟩) (h := ?_); rotate_left
         ·intro w hSw; (try dsimp only at hSw); go_simp; (try with_reducible rfl)
         simp only [ps]
         refine tk 11 183 (v := ?_) rfl (hy := .inl ⟨by rfl, ?_⟩) (h := ?_); rotate_left
         ·intro w hSw; (try dsimp only at hSw); go_simp; (try with_reducible rfl)
         simp only [ps]
         refine tk 14 186 (v := ?_) rfl (hy := .inl ⟨by rfl, ?_⟩) (h := ?_); rotate_left
         ·intro w hSw; (try dsimp only at hSw); go_simp; (try with_reducible rfl)
         simp only [ps]
         refine tk 12 184 (v := ?_) rfl (hy := .inl ⟨by rfl, ?_⟩) (h := ?_); rotate_left
         ·intro w hSw; (try dsimp only at hSw); go_simp; (try with_reducible rfl)
         simp only [ps]
         refine tk 15 187 (v := ?_) rfl (hy := .inl ⟨by rfl, ?_⟩) (h := ?_); rotate_left
         ·intro w hSw; (try dsimp only at hSw); go_simp; (try with_reducible rfl)
         simp only [ps]
         refine tk 13 185 (v := ?_) rfl (hy := .inl ⟨by rfl, ?_⟩) (h := ?_); rotate_left
         ·intro w hSw; (try dsimp only at hSw); go_simp; (try with_reducible rfl)
         simp only [ps]
         refine tk 16 188 (v := ?_) rfl (hy := .inl ⟨by rfl, ?_⟩) (h := ?_); rotate_left
         ·intro w hSw; (try dsimp only at hSw); go_simp; (try with_reducible rfl)
         simp only [ps]
         refine tk 17 189 (v := ?_) rfl (hy := .inl ⟨by rfl, ?_⟩) (h := ?_); rotate_left
         ·intro w hSw; (try dsimp only at hSw); go_simp; (try with_reducible rfl)
         simp only [ps]
         refine tk 18 190 (v := ?_) rfl (hy := .inl ⟨by rfl, ?_⟩) (h := ?_); rotate_left
         ·intro w hSw; (try dsimp only at hSw); go_simp; (try with_reducible rfl)
         simp only [ps]
         refine tk 19 191 (v := ?_) rfl (hy := .inl ⟨by rfl, ?_⟩) (h := ?_); rotate_left
         ·intro w hSw; (try dsimp only at hSw); go_simp; (try with_reducible rfl)
         simp only [ps]
         refine tk 20 192 (v := ?_) rfl (hy := .inl ⟨by rfl, ?_⟩) (h := ?_); rotate_left
         ·intro w hSw; (try dsimp only at hSw); go_simp; (try with_reducible rfl)
         simp only [ps]
         refine tk 23 195 (v := ?_) rfl (hy := .inl ⟨by rfl, ?_⟩) (h := ?_); rotate_left
         ·intro w hSw; (try dsimp only at hSw); go_simp; (try with_reducible rfl)
         simp only [ps]
         refine tk 21 193 (v := ?_) rfl (hy := .inl ⟨by rfl, ?_⟩) (h := ?_); rotate_left
         ·intro w hSw; (try dsimp only at hSw); go_simp; (try with_reducible rfl)
         simp only [ps]
         refine tk 24 196 (v := ?_) rfl (hy := .inl ⟨by rfl, ?_⟩) (h := ?_); rotate_left
         ·intro w hSw; (try dsimp only at hSw); go_simp; (try with_reducible rfl)
         simp only [ps]
         refine tk 22 194 (v := ?_) rfl (hy := .inl ⟨by rfl, ?_⟩) (h := ?_); rotate_left
         ·intro w hSw; (try dsimp only at hSw); go_simp; (try with_reducible rfl)
         simp only [ps]
         refine tk 25 197 (v := ?_) rfl (hy := .inl ⟨by rfl, ?_⟩) (h := ?_); rotate_left
         ·intro w hSw; (try dsimp only at hSw); go_simp; (try with_reducible rfl)
         simp only [ps]
         refine tk 26 198 (v := ?_) rfl (hy := .inl ⟨by rfl, ?_⟩) (h := ?_); rotate_left
         ·intro w hSw; (try dsimp only at hSw); go_simp; (try with_reducible rfl)
         simp only [ps]
         refine tk 27 199 (v := ?_) rfl (hy := .inl ⟨by rfl, ?_⟩) (h := ?_); rotate_left
         ·intro w hSw; (try dsimp only at hSw); go_simp; (try with_reducible rfl)
         simp only [ps]
         refine tk 28 200 (v := ?_) rfl (hy := .inl ⟨by rfl, ?_⟩) (h := ?_); rotate_left
         ·intro w hSw; (try dsimp only at hSw); go_simp; (try with_reducible rfl)
         simp only [ps]
         refine tk 30 202 (v := ?_) rfl (hy := .inl ⟨by rfl, ?_⟩) (h := ?_); rotate_left
         ·intro w hSw; (try dsimp only at hSw); go_simp; (try with_reducible rfl)
         simp only [ps]
         refine tk 29 201 (v := ?_) rfl (hy := .inl ⟨by rfl, ?_⟩) (h := ?_); rotate_left
         ·intro w hSw; (try dsimp only at hSw); go_simp; (try with_reducible rfl)
         simp only [ps]
         refine tk 31 203 (v := ?_) rfl (hy := .inl ⟨by rfl, ?_⟩) (h := ?_); rotate_left
         ·intro w hSw; (try dsimp only at hSw); go_simp; (try with_reducible rfl)
         simp only [ps]
         refine ready_at (i := 32) rfl (by kernel_rfl) (fun KK hKK => ?_)
         go_simp
         have hgo := bz1
         refine (unhide EX2 _ (unhide HE _ (Bw18.trans (hgo.mono Bw18.size)))).mono ?_
         rintro e wz20_2 ⟨rfl, bb⟩
         have bz2 : Below w18.heap.size w18 wz20_2 := bz1.trans (bb.mono bz1.size)
         clear bz1 hgo bb
         clear hHeld
         refine hKK.out _ _ (unhide K _ bz2) (fun hHeld => ?_)
         clear hKK KK
         refine tk 33 205 (v := ?_) rfl (hy := .inl ⟨by rfl, ?_⟩) (h := ?_); rotate_left
         ·intro w hSw; (try dsimp only at hSw); go_simp; (try with_reducible rfl)
         simp only [ps]
         refine tk 34 206 (v := ?_) rfl (hy := .inl ⟨by rfl, ?_⟩) (h := ?_); rotate_left
         ·intro w hSw; (try dsimp only at hSw); go_simp; (try with_reducible rfl)
         simp only [ps]
         refine tk 35 207 (v := ?_) rfl (hy := .inl ⟨by rfl, ?_⟩) (h := ?_); rotate_left
         ·intro w hSw; (try dsimp only at hSw); go_simp; (try with_reducible rfl)
         simp only [ps]
         refine tk 36 208 (v := ?_) rfl (hy := .inl ⟨by rfl, ?_⟩) (h := ?_); rotate_left
         ·intro w hSw; (try dsimp only at hSw); go_simp; (try with_reducible rfl)
         simp only [ps]
         refine tk 37 209 (v := ?_) rfl (hy := .inl ⟨by rfl, ?_⟩) (h := ?_); rotate_left
         ·intro w hSw; (try dsimp only at hSw); go_simp; (try with_reducible rfl)
         simp only [ps]
         refine tk 39 211 (v := ?_) rfl (hy := .inl ⟨by rfl, ?_⟩) (h := ?_); rotate_left
         ·intro w hSw; (try dsimp only at hSw); go_simp; (try with_reducible rfl)
         simp only [ps]
         refine ready_at (i := 38) rfl (by kernel_rfl) (fun KK hKK => ?_)
         go_simp
         have hgo := bz2
         refine (unhide IS2 _ ((unhide OA).below hgo (Nat.le_refl _)) ((unhide P).below hgo (Nat.le_refl _)) (unhide HE _ (Bw18.trans (hgo.mono Bw18.size)))).mono ?_
         rintro e wz20_3 ⟨uK, rfl, OK, bb⟩
         have bz3 : Below w18.heap.size w18 wz20_3 := bz2.trans (bb.mono bz2.size)
         replace OK := OI.ri OK (by omega)
         obtain ⟨aK, cK, rfl⟩ := OK.form
         replace OK := hide OK
         clear bz2 hgo bb
         clear hHeld
         refine hKK.out _ _ (unhide K _ bz3) (fun hHeld => ?_)
         clear hKK KK
         refine ready_at (i := 40) rfl (by kernel_rfl) (fun KK hKK => ?_)
         go_simp
         have hgo := bz3
         refine (unhide SA _ _ _ _ _ (unhide OK) ((unhide OA).below hgo (Nat.le_refl _))).mono ?_
         rintro e wz20_4 ⟨rfl, bb⟩
         have bz4 : Below w18.heap.size w18 wz20_4 := bz3.trans (bb.mono bz3.size)
         clear OK
         clear bz3 hgo bb
         clear hHeld
         refine hKK.out _ _ (unhide K _ bz4) (fun hHeld => ?_)
         clear hKK KK
         refine tk 41 213 (v := ?_) rfl (hy := .inl ⟨by rfl, ?_⟩) (h := ?_); rotate_left
         ·intro w hSw; (try dsimp only at hSw); go_simp; (try with_reducible rfl)
         simp only [ps]
         refine tk 42 2 (v := ?_) rfl (hy := .inl ⟨by rfl, ?_⟩) (h := ?_); rotate_left
         ·intro w hSw; (try dsimp only at hSw); go_simp; (try with_reducible rfl)
         simp only [ps]
         clear hHeld
         refine wpAnyH_done (by kernel_rfl) ?_ _
         refine NoPanic.normal ?_
         have bb := bz4
         have Bwz20_4 := Bw18.trans (bb.mono Bw18.size)
         have swz20_4 := bb.size
         replace LC := LC.below bb LC.lt
         replace LS := LS.below bb LS.lt
         replace LQ := LQ.below bb LQ.lt
         replace LA := LA.below bb LA.lt
         replace LD := LD.below bb LD.lt
         replace LT := LT.below bb LT.lt
         replace LB := LB.below bb LB.lt
         replace LE := LE.below bb LE.lt
         clear Bw18
         replace O := hide ((unhide O).below bb (Nat.le_refl _))
         replace P := hide ((unhide P).below bb (Nat.le_refl _))
         replace OA := hide ((unhide OA).below bb (Nat.le_refl _))
         replace P2 := hide ((unhide P2).below bb (Nat.le_refl _))
         replace OG := hide ((unhide OG).below bb (Nat.le_refl _))
         clear bb bz4 K
         go_wp2
         go_ret
         exact ⟨rfl, Bwz20_4⟩
     ·have eo : o1 = vw := (unhide ho1).symm.trans (unhide HT)
      subst eo
      have hlt := unhide HM rfl
      have k0 : decide (o1 ≤ vo2) = false := by simp; omega
      clear HM HT ho1 hlt
      have cLD0 := LD.cell 0 rfl
      have cLD1 := LD.cell 1 rfl
      have cLE0 := LE.cell 0 rfl
      have cLE1 := LE.cell 1 rfl
      have cLE2 := LE.cell 2 rfl
      have cLE3 := LE.cell 3 rfl
      have cLE4 := LE.cell 4 rfl
      have cLE5 := LE.cell 5 rfl
      have cLB0 := LB.cell 0 rfl
      have cLB1 := LB.cell 1 rfl
      have cLB2 := LB.cell 2 rfl
      have cLB3 := LB.cell 3 rfl
      have cLT0 := LT.cell 0 rfl
      have cLT1 := LT.cell 1 rfl
      have cLT2 := LT.cell 2 rfl
      have cLT3 := LT.cell 3 rfl
      have cLT4 := LT.cell 4 rfl
      have cLT5 := LT.cell 5 rfl
      go_wp2_with fail
      refine (unhide I2 _ _ _ (unhide OG) (unhide P2) (unhide HE _ Bwz12_11)).mono ?_
      rintro _ w17 ⟨rfl, bb⟩
      clear cLD0 cLD1 cLE0 cLE1 cLE2 cLE3 cLE4 cLE5 cLB0 cLB1 cLB2 cLB3 cLT0 cLT1 cLT2 cLT3 cLT4 cLT5
      have Bw17 := Bwz12_11.trans (bb.mono Bwz12_11.size)
      have sw17 := bb.size
      replace LC := LC.below bb LC.lt
      replace LS := LS.below bb LS.lt
      replace LQ := LQ.below bb LQ.lt
      replace LA := LA.below bb LA.lt
      replace LD := LD.below bb LD.lt
      replace LT := LT.below bb LT.lt
      replace LB := LB.below bb LB.lt
      replace LE := LE.below bb LE.lt
      clear Bwz12_11
      replace O := hide ((unhide O).below bb (Nat.le_refl _))
      replace P := hide ((unhide P).below bb (Nat.le_refl _))
      replace OA := hide ((unhide OA).below bb (Nat.le_refl _))
      replace P2 := hide ((unhide P2).below bb (Nat.le_refl _))
      replace OG := hide ((unhide OG).below bb (Nat.le_refl _))
      clear bb
      clear I2 k0
      as_aux_lemma =>
       have cLC0 := LC.cell 0 rfl
       have cLC1 := LC.cell 1 rfl
       have cLS0 := LS.cell 0 rfl
       have cLS1 := LS.cell 1 rfl
       have cLS2 := LS.cell 2 rfl
       have cLS3 := LS.cell 3 rfl
       have cLS4 := LS.cell 4 rfl
       have cLS5 := LS.cell 5 rfl
       go_wp2_with fail
       refine (unhide IK _ (unhide O) (unhide HE _ Bw17)).mono ?_
       rintro _ w18 ⟨rfl, bb⟩
       clear cLC0 cLC1 cLS0 cLS1 cLS2 cLS3 cLS4 cLS5
       have Bw18 := Bw17.trans (bb.mono Bw17.size)
       have sw18 := bb.size
       replace LC := LC.below bb LC.lt
       replace LS := LS.below bb LS.lt
       replace LQ := LQ.below bb LQ.lt
       replace LA := LA.below bb LA.lt
       replace LD := LD.below bb LD.lt
       replace LT := LT.below bb LT.lt
       replace LB := LB.below bb LB.lt
       replace LE := LE.below bb LE.lt
       clear Bw17
       replace O := hide ((unhide O).below bb (Nat.le_refl _))
       replace P := hide ((unhide P).below bb (Nat.le_refl _))
       replace OA := hide ((unhide OA).below bb (Nat.le_refl _))
       replace P2 := hide ((unhide P2).below bb (Nat.le_refl _))
       replace OG := hide ((unhide OG).below bb (Nat.le_refl _))
       clear bb
       clear IK
       cases b1
       ·have SM := hide fun w' (h : RI w' (.slice aA X1.length cA) X1) (h' : RI w' (.slice aO xs.length cO) xs) => implSafeSame vo L1 V1 T1 aA cA X1 D1 vo lo v s aO cO xs d w' h h'
        rw [unhide FN rfl] at SM
        clear FN FY
        have cLA0 := LA.cell 0 rfl
        have cLA1 := LA.cell 1 rfl
        have cLA2 := LA.cell 2 rfl
        have cLA3 := LA.cell 3 rfl
        have cLA4 := LA.cell 4 rfl
        have cLA5 := LA.cell 5 rfl
        have cLS0 := LS.cell 0 rfl
        have cLS1 := LS.cell 1 rfl
        have cLS2 := LS.cell 2 rfl
        have cLS3 := LS.cell 3 rfl
        have cLS4 := LS.cell 4 rfl
        have cLS5 := LS.cell 5 rfl
        go_wp2_with fail
        refine (unhide SM _ (unhide OA) (unhide O)).mono ?_
        rintro _ w19 ⟨rfl, bb⟩
        clear cLA0 cLA1 cLA2 cLA3 cLA4 cLA5 cLS0 cLS1 cLS2 cLS3 cLS4 cLS5
        have Bw19 := Bw18.trans (bb.mono Bw18.size)
        have sw19 := bb.size
        replace LC := LC.below bb LC.lt
        replace LS := LS.below bb LS.lt
        replace LQ := LQ.below bb LQ.lt
        replace LA := LA.below bb LA.lt
        replace LD := LD.below bb LD.lt
        replace LT := LT.below bb LT.lt
        replace LB := LB.below bb LB.lt
        replace LE := LE.below bb LE.lt
        clear Bw18
        replace O := hide ((unhide O).below bb (Nat.le_refl _))
        replace P := hide ((unhide P).below bb (Nat.le_refl _))
        replace OA := hide ((unhide OA).below bb (Nat.le_refl _))
        replace P2 := hide ((unhide P2).below bb (Nat.le_refl _))
        replace OG := hide ((unhide OG).below bb (Nat.le_refl _))
        clear bb
        go_wp2
        go_ret
        exact ⟨rfl, Bw19⟩
       ·have cLC0 := LC.cell 0 rfl
        have cLC1 := LC.cell 1 rfl
        have cLQ0 := LQ.cell 0 rfl
        have cLQ1 := LQ.cell 1 rfl
        have cLQ2 := LQ.cell 2 rfl
        go_wp2_with fail
        refine (unhide QK _ (unhide P) (unhide HE _ Bw18)).mono ?_
        rintro _ w19 ⟨rfl, bb⟩
        clear cLC0 cLC1 cLQ0 cLQ1 cLQ2
        have Bw19 := Bw18.trans (bb.mono Bw18.size)
        have sw19 := bb.size
        replace LC := LC.below bb LC.lt
        replace LS := LS.below bb LS.lt
        replace LQ := LQ.below bb LQ.lt
        replace LA := LA.below bb LA.lt
        replace LD := LD.below bb LD.lt
        replace LT := LT.below bb LT.lt
        replace LB := LB.below bb LB.lt
        replace LE := LE.below bb LE.lt
        clear Bw18
        replace O := hide ((unhide O).below bb (Nat.le_refl _))
        replace P := hide ((unhide P).below bb (Nat.le_refl _))
        replace OA := hide ((unhide OA).below bb (Nat.le_refl _))
        replace P2 := hide ((unhide P2).below bb (Nat.le_refl _))
        replace OG := hide ((unhide OG).below bb (Nat.le_refl _))
        clear bb
        clear QK
        cases b2
        ·have SM := hide fun w' (h : RI w' (.slice aA X1.length cA) X1) (h' : RI w' (.slice aO xs.length cO) xs) => implSafeSame vo L1 V1 T1 aA cA X1 D1 vo lo v s aO cO xs d w' h h'
         rw [unhide FN rfl] at SM
         clear FN FY
         have cLA0 := LA.cell 0 rfl
         have cLA1 := LA.cell 1 rfl
         have cLA2 := LA.cell 2 rfl
         have cLA3 := LA.cell 3 rfl
         have cLA4 := LA.cell 4 rfl
         have cLA5 := LA.cell 5 rfl
         have cLS0 := LS.cell 0 rfl
         have cLS1 := LS.cell 1 rfl
         have cLS2 := LS.cell 2 rfl
         have cLS3 := LS.cell 3 rfl
         have cLS4 := LS.cell 4 rfl
         have cLS5 := LS.cell 5 rfl
         go_wp2_with fail
         refine (unhide SM _ (unhide OA) (unhide O)).mono ?_
         rintro _ w20 ⟨rfl, bb⟩
         clear cLA0 cLA1 cLA2 cLA3 cLA4 cLA5 cLS0 cLS1 cLS2 cLS3 cLS4 cLS5
         have Bw20 := Bw19.trans (bb.mono Bw19.size)
         have sw20 := bb.size
         replace LC := LC.below bb LC.lt
         replace LS := LS.below bb LS.lt
         replace LQ := LQ.below bb LQ.lt
         replace LA := LA.below bb LA.lt
         replace LD := LD.below bb LD.lt
         replace LT := LT.below bb LT.lt
         replace LB := LB.below bb LB.lt
         replace LE := LE.below bb LE.lt
         clear Bw19
         replace O := hide ((unhide O).below bb (Nat.le_refl _))
         replace P := hide ((unhide P).below bb (Nat.le_refl _))
         replace OA := hide ((unhide OA).below bb (Nat.le_refl _))
         replace P2 := hide ((unhide P2).below bb (Nat.le_refl _))
         replace OG := hide ((unhide OG).below bb (Nat.le_refl _))
         clear bb
         go_wp2
         go_ret
         exact ⟨rfl, Bw20⟩
        ·obtain ⟨y1, y2, y3, y4, y5, y6, y7, y8, y9, y10, y11⟩ := unhide FY rfl
         clear FY FN
         have IK2 := hide fun w' (h : RI w' (.slice aA X1.length cA) X1) (e : Env w') => implSafeOk n f vo L1 V1 T1 aA cA X1 D1 w' (by omega) (by omega) e h
         rw [y1] at IK2
         have EX2 := hide fun w' (e : Env w') => implExtends D1 d w' (by omega) (by omega) e
         rw [y5] at EX2
         have IS2 := hide fun w' (h : RI w' (.slice aA X1.length cA) X1) (h' : RI w' (.slice aP ys.length cP) ys) (e : Env w') => implSee n f vo L1 V1 T1 aA cA X1 D1 v' s' aP cP ys w' (by omega) (by omega) (by omega) e h h'
         simp only [y6, y7, y8, y9, y10, y11] at IS2
         have k1 : decide (lo ≤ L1) = true := by simpa using y2
         have k2 : decide (v ≤ V1) = true := by simpa using y3
         have k3 : decide (v' ≤ V1) = true := by simpa using y4
         clear y1 y2 y3 y4 y5 y6 y7 y8 y9 y10 y11
         have K : Hid (∀ w', Below w19.heap.size w19 w' → (fun w' => Below w19.heap.size w19 w' ∧ (w'.cell? ⟨w2.heap.size, 0, none⟩ = some (.int .i64 n) ∧ w'.cell? ⟨w2.heap.size, 1, none⟩ = some (.int .i64 f)) ∧ (w'.cell? ⟨w2.heap.size + 1, 0, none⟩ = some (.int .i64 vo) ∧ w'.cell? ⟨w2.heap.size + 1, 1, none⟩ = some (.int .i64 lo) ∧ w'.cell? ⟨w2.heap.size + 1, 2, none⟩ = some (.int .i64 v) ∧ w'.cell? ⟨w2.heap.size + 1, 3, none⟩ = some (.string s) ∧ w'.cell? ⟨w2.heap.size + 1, 4, none⟩ = some (.slice aO xs.length cO) ∧ w'.cell? ⟨w2.heap.size + 1, 5, none⟩ = some (.string d)) ∧ (w'.cell? ⟨w2.heap.size + 1 + 1, 0, none⟩ = some (.int .i64 v') ∧ w'.cell? ⟨w2.heap.size + 1 + 1, 1, none⟩ = some (.string s') ∧ w'.cell? ⟨w2.heap.size + 1 + 1, 2, none⟩ = some (.slice aP ys.length cP)) ∧ (w'.cell? ⟨w4.heap.size, 0, none⟩ = some (.int .i64 vo) ∧ w'.cell? ⟨w4.heap.size, 1, none⟩ = some (.int .i64 L1) ∧ w'.cell? ⟨w4.heap.size, 2, none⟩ = some (.int .i64 V1) ∧ w'.cell? ⟨w4.heap.size, 3, none⟩ = some (.string T1) ∧ w'.cell? ⟨w4.heap.size, 4, none⟩ = some (.slice aA X1.length cA) ∧ w'.cell? ⟨w4.heap.size, 5, none⟩ = some (.string D1))) w') := hide fun w' hb' => ⟨hb', ⟨(LC.below hb' LC.lt).cell 0 rfl, (LC.below hb' LC.lt).cell 1 rfl⟩, ⟨(LS.below hb' LS.lt).cell 0 rfl, (LS.below hb' LS.lt).cell 1 rfl, (LS.below hb' LS.lt).cell 2 rfl, (LS.below hb' LS.lt).cell 3 rfl, (LS.below hb' LS.lt).cell 4 rfl, (LS.below hb' LS.lt).cell 5 rfl⟩, ⟨(LQ.below hb' LQ.lt).cell 0 rfl, (LQ.below hb' LQ.lt).cell 1 rfl, (LQ.below hb' LQ.lt).cell 2 rfl⟩, ⟨(LA.below hb' LA.lt).cell 0 rfl, (LA.below hb' LA.lt).cell 1 rfl, (LA.below hb' LA.lt).cell 2 rfl, (LA.below hb' LA.lt).cell 3 rfl, (LA.below hb' LA.lt).cell 4 rfl, (LA.below hb' LA.lt).cell 5 rfl⟩⟩
         go_upto_region 20 with fail
         have bA : Below w19.heap.size w19 w19.drew := Below.drew (Below.refl _ _)
         refine wp_region_noPanic ?_
         refine wp_region_held_drew (S := fun w' => Below w19.heap.size w19 w' ∧ (w'.cell? ⟨w2.heap.size, 0, none⟩ = some (.int .i64 n) ∧ w'.cell? ⟨w2.heap.size, 1, none⟩ = some (.int .i64 f)) ∧ (w'.cell? ⟨w2.heap.size + 1, 0, none⟩ = some (.int .i64 vo) ∧ w'.cell? ⟨w2.heap.size + 1, 1, none⟩ = some (.int .i64 lo) ∧ w'.cell? ⟨w2.heap.size + 1, 2, none⟩ = some (.int .i64 v) ∧ w'.cell? ⟨w2.heap.size + 1, 3, none⟩ = some (.string s) ∧ w'.cell? ⟨w2.heap.size + 1, 4, none⟩ = some (.slice aO xs.length cO) ∧ w'.cell? ⟨w2.heap.size + 1, 5, none⟩ = some (.string d)) ∧ (w'.cell? ⟨w2.heap.size + 1 + 1, 0, none⟩ = some (.int .i64 v') ∧ w'.cell? ⟨w2.heap.size + 1 + 1, 1, none⟩ = some (.string s') ∧ w'.cell? ⟨w2.heap.size + 1 + 1, 2, none⟩ = some (.slice aP ys.length cP)) ∧ (w'.cell? ⟨w4.heap.size, 0, none⟩ = some (.int .i64 vo) ∧ w'.cell? ⟨w4.heap.size, 1, none⟩ = some (.int .i64 L1) ∧ w'.cell? ⟨w4.heap.size, 2, none⟩ = some (.int .i64 V1) ∧ w'.cell? ⟨w4.heap.size, 3, none⟩ = some (.string T1) ∧ w'.cell? ⟨w4.heap.size, 4, none⟩ = some (.slice aA X1.length cA) ∧ w'.cell? ⟨w4.heap.size, 5, none⟩ = some (.string D1))) (by kernel_rfl) (unhide K _ bA) (fun hHeld => ?_)
         refine tk 0 172 (v := ?_) rfl (hy := .inl ⟨by rfl, ?_⟩) (h := ?_); rotate_left
         ·intro w hSw; (try dsimp only at hSw); go_simp; (try with_reducible rfl)
         simp only [ps]
         refine tk 1 173 (v := ?_) rfl (hy := .inl ⟨by rfl, ?_⟩) (h := ?_); rotate_left
         ·intro w hSw; (try dsimp only at hSw); go_simp; (try with_reducible rfl)
         simp only [ps]
         refine ready_at (i := 2) rfl (by kernel_rfl) (fun KK hKK => ?_)
         go_simp
         have hgo := bA
         refine (unhide IK2 _ ((unhide OA).below hgo (Nat.le_refl _)) (unhide HE _ (Bw19.trans (hgo.mono Bw19.size)))).mono ?_
         rintro e wz20_1 ⟨rfl, bb⟩
         have bz1 : Below w19.heap.size w19 wz20_1 := bA.trans (bb.mono bA.size)
         clear bA hgo bb
         clear hHeld
         refine hKK.out _ _ (unhide K _ bz1) (fun hHeld => ?_)
         clear hKK KK
         refine tk 3 175 (v := ?_) rfl (hy := .inl ⟨by rfl, ?_⟩) (h := ?_); rotate_left
         ·intro w hSw; (try dsimp only at hSw); go_simp; (try with_reducible rfl)
         simp only [ps]
         refine tk 4 176 (v := ?_) rfl (hy := .inl ⟨by rfl, ?_⟩) (h := ?_); rotate_left
         ·intro w hSw; (try dsimp only at hSw); go_simp; (try with_reducible rfl)
         simp only [ps]
         refine tk 6 178 (v := ?_) rfl (hy := .inl ⟨by rfl, ?_⟩) (h := ?_); rotate_left
         ·intro w hSw; (try dsimp only at hSw); go_simp; (try with_reducible rfl)
         simp only [ps]
         refine tk 5 177 (v := ?_) rfl (hy := .inl ⟨by rfl, ?_⟩) (h := ?_); rotate_left
         ·intro w hSw; (try dsimp only at hSw); go_simp; (try with_reducible rfl)
         simp only [ps]
         refine tk 7 179 (v := ?_) rfl (hy := .inl ⟨by rfl, ?_⟩) (h := ?_); rotate_left
         ·intro w hSw; (try dsimp only at hSw); go_simp; (try with_reducible rfl)
         simp only [ps]
         refine tk 8 180 (v := ?_) rfl (hy := .inl ⟨by rfl, ?_⟩) (h := ?_); rotate_left
         ·intro w hSw; (try dsimp only at hSw); go_simp; (try with_reducible rfl)
         simp only [ps]
         refine tk 9 181 (v := ?_) rfl (hy := .inl ⟨by rfl, ?_⟩) (h := ?_); rotate_left
         ·intro w hSw; (try dsimp only at hSw); go_simp; (try with_reducible rfl)
         simp only [ps]
         refine tk 10 182 (v := ?_) rfl (hy := .inl ⟨by rfl, ?_⟩) (h := ?_); rotate_left
         ·intro w hSw; (try dsimp only at hSw); go_simp; (try with_reducible rfl)
         simp only [ps]
         refine tk 11 183 (v := ?_) rfl (hy := .inl ⟨by rfl, ?_⟩) (h := ?_); rotate_left
         ·intro w hSw; (try dsimp only at hSw); go_simp; (try with_reducible rfl)
         simp only [ps]
         refine tk 14 186 (v := ?_) rfl (hy := .inl ⟨by rfl, ?_⟩) (h := ?_); rotate_left
         ·intro w hSw; (try dsimp only at hSw); go_simp; (try with_reducible rfl)
         simp only [ps]
         refine tk 12 184 (v := ?_) rfl (hy := .inl ⟨by rfl, ?_⟩) (h := ?_); rotate_left
         ·intro w hSw; (try dsimp only at hSw); go_simp; (try with_reducible rfl)
         simp only [ps]
         refine tk 15 187 (v := ?_) rfl (hy := .inl ⟨by rfl, ?_⟩) (h := ?_); rotate_left
         ·intro w hSw; (try dsimp only at hSw); go_simp; (try with_reducible rfl)
         simp only [ps]
         refine tk 13 185 (v := ?_) rfl (hy := .inl ⟨by rfl, ?_⟩) (h := ?_); rotate_left
         ·intro w hSw; (try dsimp only at hSw); go_simp; (try with_reducible rfl)
         simp only [ps]
         refine tk 16 188 (v := ?_) rfl (hy := .inl ⟨by rfl, ?_⟩) (h := ?_); rotate_left
         ·intro w hSw; (try dsimp only at hSw); go_simp; (try with_reducible rfl)
         simp only [ps]
         refine tk 17 189 (v := ?_) rfl (hy := .inl ⟨by rfl, ?_⟩) (h := ?_); rotate_left
         ·intro w hSw; (try dsimp only at hSw); go_simp; (try with_reducible rfl)
         simp only [ps]
         refine tk 18 190 (v := ?_) rfl (hy := .inl ⟨by rfl, ?_⟩) (h := ?_); rotate_left
         ·intro w hSw; (try dsimp only at hSw); go_simp; (try with_reducible rfl)
         simp only [ps]
         refine tk 19 191 (v := ?_) rfl (hy := .inl ⟨by rfl, ?_⟩) (h := ?_); rotate_left
         ·intro w hSw; (try dsimp only at hSw); go_simp; (try with_reducible rfl)
         simp only [ps]
         refine tk 20 192 (v := ?_) rfl (hy := .inl ⟨by rfl, ?_⟩) (h := ?_); rotate_left
         ·intro w hSw; (try dsimp only at hSw); go_simp; (try with_reducible rfl)
         simp only [ps]
         refine tk 23 195 (v := ?_) rfl (hy := .inl ⟨by rfl, ?_⟩) (h := ?_); rotate_left
         ·intro w hSw; (try dsimp only at hSw); go_simp; (try with_reducible rfl)
         simp only [ps]
         refine tk 21 193 (v := ?_) rfl (hy := .inl ⟨by rfl, ?_⟩) (h := ?_); rotate_left
         ·intro w hSw; (try dsimp only at hSw); go_simp; (try with_reducible rfl)
         simp only [ps]
         refine tk 24 196 (v := ?_) rfl (hy := .inl ⟨by rfl, ?_⟩) (h := ?_); rotate_left
         ·intro w hSw; (try dsimp only at hSw); go_simp; (try with_reducible rfl)
         simp only [ps]
         refine tk 22 194 (v := ?_) rfl (hy := .inl ⟨by rfl, ?_⟩) (h := ?_); rotate_left
         ·intro w hSw; (try dsimp only at hSw); go_simp; (try with_reducible rfl)
         simp only [ps]
         refine tk 25 197 (v := ?_) rfl (hy := .inl ⟨by rfl, ?_⟩) (h := ?_); rotate_left
         ·intro w hSw; (try dsimp only at hSw); go_simp; (try with_reducible rfl)
         simp only [ps]
         refine tk 26 198 (v := ?_) rfl (hy := .inl ⟨by rfl, ?_⟩) (h := ?_); rotate_left
         ·intro w hSw; (try dsimp only at hSw); go_simp; (try with_reducible rfl)
         simp only [ps]
         refine tk 27 199 (v := ?_) rfl (hy := .inl ⟨by rfl, ?_⟩) (h := ?_); rotate_left
         ·intro w hSw; (try dsimp only at hSw); go_simp; (try with_reducible rfl)
         simp only [ps]
         refine tk 28 200 (v := ?_) rfl (hy := .inl ⟨by rfl, ?_⟩) (h := ?_); rotate_left
         ·intro w hSw; (try dsimp only at hSw); go_simp; (try with_reducible rfl)
         simp only [ps]
         refine tk 30 202 (v := ?_) rfl (hy := .inl ⟨by rfl, ?_⟩) (h := ?_); rotate_left
         ·intro w hSw; (try dsimp only at hSw); go_simp; (try with_reducible rfl)
         simp only [ps]
         refine tk 29 201 (v := ?_) rfl (hy := .inl ⟨by rfl, ?_⟩) (h := ?_); rotate_left
         ·intro w hSw; (try dsimp only at hSw); go_simp; (try with_reducible rfl)
         simp only [ps]
         refine tk 31 203 (v := ?_) rfl (hy := .inl ⟨by rfl, ?_⟩) (h := ?_); rotate_left
         ·intro w hSw; (try dsimp only at hSw); go_simp; (try with_reducible rfl)
         simp only [ps]
         refine ready_at (i := 32) rfl (by kernel_rfl) (fun KK hKK => ?_)
         go_simp
         have hgo := bz1
         refine (unhide EX2 _ (unhide HE _ (Bw19.trans (hgo.mono Bw19.size)))).mono ?_
         rintro e wz20_2 ⟨rfl, bb⟩
         have bz2 : Below w19.heap.size w19 wz20_2 := bz1.trans (bb.mono bz1.size)
         clear bz1 hgo bb
         clear hHeld
         refine hKK.out _ _ (unhide K _ bz2) (fun hHeld => ?_)
         clear hKK KK
         refine tk 33 205 (v := ?_) rfl (hy := .inl ⟨by rfl, ?_⟩) (h := ?_); rotate_left
         ·intro w hSw; (try dsimp only at hSw); go_simp; (try with_reducible rfl)
         simp only [ps]
         refine tk 34 206 (v := ?_) rfl (hy := .inl ⟨by rfl, ?_⟩) (h := ?_); rotate_left
         ·intro w hSw; (try dsimp only at hSw); go_simp; (try with_reducible rfl)
         simp only [ps]
         refine tk 35 207 (v := ?_) rfl (hy := .inl ⟨by rfl, ?_⟩) (h := ?_); rotate_left
         ·intro w hSw; (try dsimp only at hSw); go_simp; (try with_reducible rfl)
         simp only [ps]
         refine tk 36 208 (v := ?_) rfl (hy := .inl ⟨by rfl, ?_⟩) (h := ?_); rotate_left
         ·intro w hSw; (try dsimp only at hSw); go_simp; (try with_reducible rfl)
         simp only [ps]
         refine tk 37 209 (v := ?_) rfl (hy := .inl ⟨by rfl, ?_⟩) (h := ?_); rotate_left
         ·intro w hSw; (try dsimp only at hSw); go_simp; (try with_reducible rfl)
         simp only [ps]
         refine tk 39 211 (v := ?_) rfl (hy := .inl ⟨by rfl, ?_⟩) (h := ?_); rotate_left
         ·intro w hSw; (try dsimp only at hSw); go_simp; (try with_reducible rfl)
         simp only [ps]
         refine ready_at (i := 38) rfl (by kernel_rfl) (fun KK hKK => ?_)
         go_simp
         have hgo := bz2
         refine (unhide IS2 _ ((unhide OA).below hgo (Nat.le_refl _)) ((unhide P).below hgo (Nat.le_refl _)) (unhide HE _ (Bw19.trans (hgo.mono Bw19.size)))).mono ?_
         rintro e wz20_3 ⟨uK, rfl, OK, bb⟩
         have bz3 : Below w19.heap.size w19 wz20_3 := bz2.trans (bb.mono bz2.size)
         replace OK := OI.ri OK (by omega)
         obtain ⟨aK, cK, rfl⟩ := OK.form
         replace OK := hide OK
         clear bz2 hgo bb
         clear hHeld
         refine hKK.out _ _ (unhide K _ bz3) (fun hHeld => ?_)
         clear hKK KK
         refine ready_at (i := 40) rfl (by kernel_rfl) (fun KK hKK => ?_)
         go_simp
         have hgo := bz3
         refine (unhide SA _ _ _ _ _ (unhide OK) ((unhide OA).below hgo (Nat.le_refl _))).mono ?_
         rintro e wz20_4 ⟨rfl, bb⟩
         have bz4 : Below w19.heap.size w19 wz20_4 := bz3.trans (bb.mono bz3.size)
         clear OK
         clear bz3 hgo bb
         clear hHeld
         refine hKK.out _ _ (unhide K _ bz4) (fun hHeld => ?_)
         clear hKK KK
         refine tk 41 213 (v := ?_) rfl (hy := .inl ⟨by rfl, ?_⟩) (h := ?_); rotate_left
         ·intro w hSw; (try dsimp only at hSw); go_simp; (try with_reducible rfl)
         simp only [ps]
         refine tk 42 2 (v := ?_) rfl (hy := .inl ⟨by rfl, ?_⟩) (h := ?_); rotate_left
         ·intro w hSw; (try dsimp only at hSw); go_simp; (try with_reducible rfl)
         simp only [ps]
         clear hHeld
         refine wpAnyH_done (by kernel_rfl) ?_ _
         refine NoPanic.normal ?_
         have bb := bz4
         have Bwz20_4 := Bw19.trans (bb.mono Bw19.size)
         have swz20_4 := bb.size
         replace LC := LC.below bb LC.lt
         replace LS := LS.below bb LS.lt
         replace LQ := LQ.below bb LQ.lt
         replace LA := LA.below bb LA.lt
         replace LD := LD.below bb LD.lt
         replace LT := LT.below bb LT.lt
         replace LB := LB.below bb LB.lt
         replace LE := LE.below bb LE.lt
         clear Bw19
         replace O := hide ((unhide O).below bb (Nat.le_refl _))
         replace P := hide ((unhide P).below bb (Nat.le_refl _))
         replace OA := hide ((unhide OA).below bb (Nat.le_refl _))
         replace P2 := hide ((unhide P2).below bb (Nat.le_refl _))
         replace OG := hide ((unhide OG).below bb (Nat.le_refl _))
         clear bb bz4 K
         go_wp2
         go_ret
         exact ⟨rfl, Bwz20_4⟩
   ·obtain ⟨i1, i2⟩ := unhide HS rfl
    subst i1
    have hw : IntKind.i64.wrap (h2 - 2) = h2 - 2 := by rw [IntKind.wrap_i64]; omega
    have hne : (h1 != h2 - 2) = false := by simp [i2]
    clear HS i2
    go_wp2_with fail
    refine (unhide EX _ (unhide HE _ Bwz12_11)).mono ?_
    rintro _ w17 ⟨rfl, bb⟩
    have Bw17 := Bwz12_11.trans (bb.mono Bwz12_11.size)
    have sw17 := bb.size
    replace LC := LC.below bb LC.lt
    replace LS := LS.below bb LS.lt
    replace LQ := LQ.below bb LQ.lt
    replace LA := LA.below bb LA.lt
    replace LD := LD.below bb LD.lt
    replace LT := LT.below bb LT.lt
    replace LB := LB.below bb LB.lt
    replace LE := LE.below bb LE.lt
    clear Bwz12_11
    replace O := hide ((unhide O).below bb (Nat.le_refl _))
    replace P := hide ((unhide P).below bb (Nat.le_refl _))
    replace OA := hide ((unhide OA).below bb (Nat.le_refl _))
    replace P2 := hide ((unhide P2).below bb (Nat.le_refl _))
    replace OG := hide ((unhide OG).below bb (Nat.le_refl _))
    clear bb
    go_wp2_with fail
    refine (unhide H1 _ (unhide HE _ Bw17)).mono ?_
    rintro _ w18 ⟨rfl, bb⟩
    have Bw18 := Bw17.trans (bb.mono Bw17.size)
    have sw18 := bb.size
    replace LC := LC.below bb LC.lt
    replace LS := LS.below bb LS.lt
    replace LQ := LQ.below bb LQ.lt
    replace LA := LA.below bb LA.lt
    replace LD := LD.below bb LD.lt
    replace LT := LT.below bb LT.lt
    replace LB := LB.below bb LB.lt
    replace LE := LE.below bb LE.lt
    clear Bw17
    replace O := hide ((unhide O).below bb (Nat.le_refl _))
    replace P := hide ((unhide P).below bb (Nat.le_refl _))
    replace OA := hide ((unhide OA).below bb (Nat.le_refl _))
    replace P2 := hide ((unhide P2).below bb (Nat.le_refl _))
    replace OG := hide ((unhide OG).below bb (Nat.le_refl _))
    clear bb
    go_wp2_with fail
    refine (unhide H2 _ (unhide HE _ Bw18)).mono ?_
    rintro _ w19 ⟨rfl, bb⟩
    have Bw19 := Bw18.trans (bb.mono Bw18.size)
    have sw19 := bb.size
    replace LC := LC.below bb LC.lt
    replace LS := LS.below bb LS.lt
    replace LQ := LQ.below bb LQ.lt
    replace LA := LA.below bb LA.lt
    replace LD := LD.below bb LD.lt
    replace LT := LT.below bb LT.lt
    replace LB := LB.below bb LB.lt
    replace LE := LE.below bb LE.lt
    clear Bw18
    replace O := hide ((unhide O).below bb (Nat.le_refl _))
    replace P := hide ((unhide P).below bb (Nat.le_refl _))
    replace OA := hide ((unhide OA).below bb (Nat.le_refl _))
    replace P2 := hide ((unhide P2).below bb (Nat.le_refl _))
    replace OG := hide ((unhide OG).below bb (Nat.le_refl _))
    clear bb
    clear EX H1 H2
    as_aux_lemma =>
     cases ok
     ·clear I2 HM HT ho1
      as_aux_lemma =>
       have cLC0 := LC.cell 0 rfl
       have cLC1 := LC.cell 1 rfl
       have cLS0 := LS.cell 0 rfl
       have cLS1 := LS.cell 1 rfl
       have cLS2 := LS.cell 2 rfl
       have cLS3 := LS.cell 3 rfl
       have cLS4 := LS.cell 4 rfl
       have cLS5 := LS.cell 5 rfl
       go_wp2_with fail
       refine (unhide IK _ (unhide O) (unhide HE _ Bw19)).mono ?_
       rintro _ w20 ⟨rfl, bb⟩
       clear cLC0 cLC1 cLS0 cLS1 cLS2 cLS3 cLS4 cLS5
       have Bw20 := Bw19.trans (bb.mono Bw19.size)
       have sw20 := bb.size
       replace LC := LC.below bb LC.lt
       replace LS := LS.below bb LS.lt
       replace LQ := LQ.below bb LQ.lt
       replace LA := LA.below bb LA.lt
       replace LD := LD.below bb LD.lt
       replace LT := LT.below bb LT.lt
       replace LB := LB.below bb LB.lt
       replace LE := LE.below bb LE.lt
       clear Bw19
       replace O := hide ((unhide O).below bb (Nat.le_refl _))
       replace P := hide ((unhide P).below bb (Nat.le_refl _))
       replace OA := hide ((unhide OA).below bb (Nat.le_refl _))
       replace P2 := hide ((unhide P2).below bb (Nat.le_refl _))
       replace OG := hide ((unhide OG).below bb (Nat.le_refl _))
       clear bb
       clear IK
       cases b1
       ·have SM := hide fun w' (h : RI w' (.slice aA X1.length cA) X1) (h' : RI w' (.slice aO xs.length cO) xs) => implSafeSame vo L1 V1 T1 aA cA X1 D1 vo lo v s aO cO xs d w' h h'
        rw [unhide FN rfl] at SM
        clear FN FY
        have cLA0 := LA.cell 0 rfl
        have cLA1 := LA.cell 1 rfl
        have cLA2 := LA.cell 2 rfl
        have cLA3 := LA.cell 3 rfl
        have cLA4 := LA.cell 4 rfl
        have cLA5 := LA.cell 5 rfl
        have cLS0 := LS.cell 0 rfl
        have cLS1 := LS.cell 1 rfl
        have cLS2 := LS.cell 2 rfl
        have cLS3 := LS.cell 3 rfl
        have cLS4 := LS.cell 4 rfl
        have cLS5 := LS.cell 5 rfl
        go_wp2_with fail
        refine (unhide SM _ (unhide OA) (unhide O)).mono ?_
        rintro _ w21 ⟨rfl, bb⟩
        clear cLA0 cLA1 cLA2 cLA3 cLA4 cLA5 cLS0 cLS1 cLS2 cLS3 cLS4 cLS5
        have Bw21 := Bw20.trans (bb.mono Bw20.size)
        have sw21 := bb.size
        replace LC := LC.below bb LC.lt
        replace LS := LS.below bb LS.lt
        replace LQ := LQ.below bb LQ.lt
        replace LA := LA.below bb LA.lt
        replace LD := LD.below bb LD.lt
        replace LT := LT.below bb LT.lt
        replace LB := LB.below bb LB.lt
        replace LE := LE.below bb LE.lt
        clear Bw20
        replace O := hide ((unhide O).below bb (Nat.le_refl _))
        replace P := hide ((unhide P).below bb (Nat.le_refl _))
        replace OA := hide ((unhide OA).below bb (Nat.le_refl _))
        replace P2 := hide ((unhide P2).below bb (Nat.le_refl _))
        replace OG := hide ((unhide OG).below bb (Nat.le_refl _))
        clear bb
        go_wp2
        go_ret
        exact ⟨rfl, Bw21⟩
       ·have cLC0 := LC.cell 0 rfl
        have cLC1 := LC.cell 1 rfl
        have cLQ0 := LQ.cell 0 rfl
        have cLQ1 := LQ.cell 1 rfl
        have cLQ2 := LQ.cell 2 rfl
        go_wp2_with fail
        refine (unhide QK _ (unhide P) (unhide HE _ Bw20)).mono ?_
        rintro _ w21 ⟨rfl, bb⟩
        clear cLC0 cLC1 cLQ0 cLQ1 cLQ2
        have Bw21 := Bw20.trans (bb.mono Bw20.size)
        have sw21 := bb.size
        replace LC := LC.below bb LC.lt
        replace LS := LS.below bb LS.lt
        replace LQ := LQ.below bb LQ.lt
        replace LA := LA.below bb LA.lt
        replace LD := LD.below bb LD.lt
        replace LT := LT.below bb LT.lt
        replace LB := LB.below bb LB.lt
        replace LE := LE.below bb LE.lt
        clear Bw20
        replace O := hide ((unhide O).below bb (Nat.le_refl _))
        replace P := hide ((unhide P).below bb (Nat.le_refl _))
        replace OA := hide ((unhide OA).below bb (Nat.le_refl _))
        replace P2 := hide ((unhide P2).below bb (Nat.le_refl _))
        replace OG := hide ((unhide OG).below bb (Nat.le_refl _))
        clear bb
        clear QK
        cases b2
        ·have SM := hide fun w' (h : RI w' (.slice aA X1.length cA) X1) (h' : RI w' (.slice aO xs.length cO) xs) => implSafeSame vo L1 V1 T1 aA cA X1 D1 vo lo v s aO cO xs d w' h h'
         rw [unhide FN rfl] at SM
         clear FN FY
         have cLA0 := LA.cell 0 rfl
         have cLA1 := LA.cell 1 rfl
         have cLA2 := LA.cell 2 rfl
         have cLA3 := LA.cell 3 rfl
         have cLA4 := LA.cell 4 rfl
         have cLA5 := LA.cell 5 rfl
         have cLS0 := LS.cell 0 rfl
         have cLS1 := LS.cell 1 rfl
         have cLS2 := LS.cell 2 rfl
         have cLS3 := LS.cell 3 rfl
         have cLS4 := LS.cell 4 rfl
         have cLS5 := LS.cell 5 rfl
         go_wp2_with fail
         refine (unhide SM _ (unhide OA) (unhide O)).mono ?_
         rintro _ w22 ⟨rfl, bb⟩
         clear cLA0 cLA1 cLA2 cLA3 cLA4 cLA5 cLS0 cLS1 cLS2 cLS3 cLS4 cLS5
         have Bw22 := Bw21.trans (bb.mono Bw21.size)
         have sw22 := bb.size
         replace LC := LC.below bb LC.lt
         replace LS := LS.below bb LS.lt
         replace LQ := LQ.below bb LQ.lt
         replace LA := LA.below bb LA.lt
         replace LD := LD.below bb LD.lt
         replace LT := LT.below bb LT.lt
         replace LB := LB.below bb LB.lt
         replace LE := LE.below bb LE.lt
         clear Bw21
         replace O := hide ((unhide O).below bb (Nat.le_refl _))
         replace P := hide ((unhide P).below bb (Nat.le_refl _))
         replace OA := hide ((unhide OA).below bb (Nat.le_refl _))
         replace P2 := hide ((unhide P2).below bb (Nat.le_refl _))
         replace OG := hide ((unhide OG).below bb (Nat.le_refl _))
         clear bb
         go_wp2
         go_ret
         exact ⟨rfl, Bw22⟩
        ·obtain ⟨y1, y2, y3, y4, y5, y6, y7, y8, y9, y10, y11⟩ := unhide FY rfl
         clear FY FN
         have IK2 := hide fun w' (h : RI w' (.slice aA X1.length cA) X1) (e : Env w') => implSafeOk n f vo L1 V1 T1 aA cA X1 D1 w' (by omega) (by omega) e h
         rw [y1] at IK2
         have EX2 := hide fun w' (e : Env w') => implExtends D1 d w' (by omega) (by omega) e
         rw [y5] at EX2
         have IS2 := hide fun w' (h : RI w' (.slice aA X1.length cA) X1) (h' : RI w' (.slice aP ys.length cP) ys) (e : Env w') => implSee n f vo L1 V1 T1 aA cA X1 D1 v' s' aP cP ys w' (by omega) (by omega) (by omega) e h h'
         simp only [y6, y7, y8, y9, y10, y11] at IS2
         have k1 : decide (lo ≤ L1) = true := by simpa using y2
         have k2 : decide (v ≤ V1) = true := by simpa using y3
         have k3 : decide (v' ≤ V1) = true := by simpa using y4
         clear y1 y2 y3 y4 y5 y6 y7 y8 y9 y10 y11
         have K : Hid (∀ w', Below w21.heap.size w21 w' → (fun w' => Below w21.heap.size w21 w' ∧ (w'.cell? ⟨w2.heap.size, 0, none⟩ = some (.int .i64 n) ∧ w'.cell? ⟨w2.heap.size, 1, none⟩ = some (.int .i64 f)) ∧ (w'.cell? ⟨w2.heap.size + 1, 0, none⟩ = some (.int .i64 vo) ∧ w'.cell? ⟨w2.heap.size + 1, 1, none⟩ = some (.int .i64 lo) ∧ w'.cell? ⟨w2.heap.size + 1, 2, none⟩ = some (.int .i64 v) ∧ w'.cell? ⟨w2.heap.size + 1, 3, none⟩ = some (.string s) ∧ w'.cell? ⟨w2.heap.size + 1, 4, none⟩ = some (.slice aO xs.length cO) ∧ w'.cell? ⟨w2.heap.size + 1, 5, none⟩ = some (.string d)) ∧ (w'.cell? ⟨w2.heap.size + 1 + 1, 0, none⟩ = some (.int .i64 v') ∧ w'.cell? ⟨w2.heap.size + 1 + 1, 1, none⟩ = some (.string s') ∧ w'.cell? ⟨w2.heap.size + 1 + 1, 2, none⟩ = some (.slice aP ys.length cP)) ∧ (w'.cell? ⟨w4.heap.size, 0, none⟩ = some (.int .i64 vo) ∧ w'.cell? ⟨w4.heap.size, 1, none⟩ = some (.int .i64 L1) ∧ w'.cell? ⟨w4.heap.size, 2, none⟩ = some (.int .i64 V1) ∧ w'.cell? ⟨w4.heap.size, 3, none⟩ = some (.string T1) ∧ w'.cell? ⟨w4.heap.size, 4, none⟩ = some (.slice aA X1.length cA) ∧ w'.cell? ⟨w4.heap.size, 5, none⟩ = some (.string D1))) w') := hide fun w' hb' => ⟨hb', ⟨(LC.below hb' LC.lt).cell 0 rfl, (LC.below hb' LC.lt).cell 1 rfl⟩, ⟨(LS.below hb' LS.lt).cell 0 rfl, (LS.below hb' LS.lt).cell 1 rfl, (LS.below hb' LS.lt).cell 2 rfl, (LS.below hb' LS.lt).cell 3 rfl, (LS.below hb' LS.lt).cell 4 rfl, (LS.below hb' LS.lt).cell 5 rfl⟩, ⟨(LQ.below hb' LQ.lt).cell 0 rfl, (LQ.below hb' LQ.lt).cell 1 rfl, (LQ.below hb' LQ.lt).cell 2 rfl⟩, ⟨(LA.below hb' LA.lt).cell 0 rfl, (LA.below hb' LA.lt).cell 1 rfl, (LA.below hb' LA.lt).cell 2 rfl, (LA.below hb' LA.lt).cell 3 rfl, (LA.below hb' LA.lt).cell 4 rfl, (LA.below hb' LA.lt).cell 5 rfl⟩⟩
         go_upto_region 20 with fail
         have bA : Below w21.heap.size w21 w21.drew := Below.drew (Below.refl _ _)
         refine wp_region_noPanic ?_
         refine wp_region_held_drew (S := fun w' => Below w21.heap.size w21 w' ∧ (w'.cell? ⟨w2.heap.size, 0, none⟩ = some (.int .i64 n) ∧ w'.cell? ⟨w2.heap.size, 1, none⟩ = some (.int .i64 f)) ∧ (w'.cell? ⟨w2.heap.size + 1, 0, none⟩ = some (.int .i64 vo) ∧ w'.cell? ⟨w2.heap.size + 1, 1, none⟩ = some (.int .i64 lo) ∧ w'.cell? ⟨w2.heap.size + 1, 2, none⟩ = some (.int .i64 v) ∧ w'.cell? ⟨w2.heap.size + 1, 3, none⟩ = some (.string s) ∧ w'.cell? ⟨w2.heap.size + 1, 4, none⟩ = some (.slice aO xs.length cO) ∧ w'.cell? ⟨w2.heap.size + 1, 5, none⟩ = some (.string d)) ∧ (w'.cell? ⟨w2.heap.size + 1 + 1, 0, none⟩ = some (.int .i64 v') ∧ w'.cell? ⟨w2.heap.size + 1 + 1, 1, none⟩ = some (.string s') ∧ w'.cell? ⟨w2.heap.size + 1 + 1, 2, none⟩ = some (.slice aP ys.length cP)) ∧ (w'.cell? ⟨w4.heap.size, 0, none⟩ = some (.int .i64 vo) ∧ w'.cell? ⟨w4.heap.size, 1, none⟩ = some (.int .i64 L1) ∧ w'.cell? ⟨w4.heap.size, 2, none⟩ = some (.int .i64 V1) ∧ w'.cell? ⟨w4.heap.size, 3, none⟩ = some (.string T1) ∧ w'.cell? ⟨w4.heap.size, 4, none⟩ = some (.slice aA X1.length cA) ∧ w'.cell? ⟨w4.heap.size, 5, none⟩ = some (.string D1))) (by kernel_rfl) (unhide K _ bA) (fun hHeld => ?_)
         refine tk 0 172 (v := ?_) rfl (hy := .inl ⟨by rfl, ?_⟩) (h := ?_); rotate_left
         ·intro w hSw; (try dsimp only at hSw); go_simp; (try with_reducible rfl)
         simp only [ps]
         refine tk 1 173 (v := ?_) rfl (hy := .inl ⟨by rfl, ?_⟩) (h := ?_); rotate_left
         ·intro w hSw; (try dsimp only at hSw); go_simp; (try with_reducible rfl)
         simp only [ps]
         refine ready_at (i := 2) rfl (by kernel_rfl) (fun KK hKK => ?_)
         go_simp
         have hgo := bA
         refine (unhide IK2 _ ((unhide OA).below hgo (Nat.le_refl _)) (unhide HE _ (Bw21.trans (hgo.mono Bw21.size)))).mono ?_
         rintro e wz20_1 ⟨rfl, bb⟩
         have bz1 : Below w21.heap.size w21 wz20_1 := bA.trans (bb.mono bA.size)
         clear bA hgo bb
         clear hHeld
         refine hKK.out _ _ (unhide K _ bz1) (fun hHeld => ?_)
         clear hKK KK
         refine tk 3 175 (v := ?_) rfl (hy := .inl ⟨by rfl, ?_⟩) (h := ?_); rotate_left
         ·intro w hSw; (try dsimp only at hSw); go_simp; (try with_reducible rfl)
         simp only [ps]
         refine tk 4 176 (v := ?_) rfl (hy := .inl ⟨by rfl, ?_⟩) (h := ?_); rotate_left
         ·intro w hSw; (try dsimp only at hSw); go_simp; (try with_reducible rfl)
         simp only [ps]
         refine tk 6 178 (v := ?_) rfl (hy := .inl ⟨by rfl, ?_⟩) (h := ?_); rotate_left
         ·intro w hSw; (try dsimp only at hSw); go_simp; (try with_reducible rfl)
         simp only [ps]
         refine tk 5 177 (v := ?_) rfl (hy := .inl ⟨by rfl, ?_⟩) (h := ?_); rotate_left
         ·intro w hSw; (try dsimp only at hSw); go_simp; (try with_reducible rfl)
         simp only [ps]
         refine tk 7 179 (v := ?_) rfl (hy := .inl ⟨by rfl, ?_⟩) (h := ?_); rotate_left
         ·intro w hSw; (try dsimp only at hSw); go_simp; (try with_reducible rfl)
         simp only [ps]
         refine tk 8 180 (v := ?_) rfl (hy := .inl ⟨by rfl, ?_⟩) (h := ?_); rotate_left
         ·intro w hSw; (try dsimp only at hSw); go_simp; (try with_reducible rfl)
         simp only [ps]
         refine tk 9 181 (v := ?_) rfl (hy := .inl ⟨by rfl, ?_⟩) (h := ?_); rotate_left
         ·intro w hSw; (try dsimp only at hSw); go_simp; (try with_reducible rfl)
         simp only [ps]
         refine tk 10 182 (v := ?_) rfl (hy := .inl ⟨by rfl, ?_⟩) (h := ?_); rotate_left
         ·intro w hSw; (try dsimp only at hSw); go_simp; (try with_reducible rfl)
         simp only [ps]
         refine tk 11 183 (v := ?_) rfl (hy := .inl ⟨by rfl, ?_⟩) (h := ?_); rotate_left
         ·intro w hSw; (try dsimp only at hSw); go_simp; (try with_reducible rfl)
         simp only [ps]
         refine tk 14 186 (v := ?_) rfl (hy := .inl ⟨by rfl, ?_⟩) (h := ?_); rotate_left
         ·intro w hSw; (try dsimp only at hSw); go_simp; (try with_reducible rfl)
         simp only [ps]
         refine tk 12 184 (v := ?_) rfl (hy := .inl ⟨by rfl, ?_⟩) (h := ?_); rotate_left
         ·intro w hSw; (try dsimp only at hSw); go_simp; (try with_reducible rfl)
         simp only [ps]
         refine tk 15 187 (v := ?_) rfl (hy := .inl ⟨by rfl, ?_⟩) (h := ?_); rotate_left
         ·intro w hSw; (try dsimp only at hSw); go_simp; (try with_reducible rfl)
         simp only [ps]
         refine tk 13 185 (v := ?_) rfl (hy := .inl ⟨by rfl, ?_⟩) (h := ?_); rotate_left
         ·intro w hSw; (try dsimp only at hSw); go_simp; (try with_reducible rfl)
         simp only [ps]
         refine tk 16 188 (v := ?_) rfl (hy := .inl ⟨by rfl, ?_⟩) (h := ?_); rotate_left
         ·intro w hSw; (try dsimp only at hSw); go_simp; (try with_reducible rfl)
         simp only [ps]
         refine tk 17 189 (v := ?_) rfl (hy := .inl ⟨by rfl, ?_⟩) (h := ?_); rotate_left
         ·intro w hSw; (try dsimp only at hSw); go_simp; (try with_reducible rfl)
         simp only [ps]
         refine tk 18 190 (v := ?_) rfl (hy := .inl ⟨by rfl, ?_⟩) (h := ?_); rotate_left
         ·intro w hSw; (try dsimp only at hSw); go_simp; (try with_reducible rfl)
         simp only [ps]
         refine tk 19 191 (v := ?_) rfl (hy := .inl ⟨by rfl, ?_⟩) (h := ?_); rotate_left
         ·intro w hSw; (try dsimp only at hSw); go_simp; (try with_reducible rfl)
         simp only [ps]
         refine tk 20 192 (v := ?_) rfl (hy := .inl ⟨by rfl, ?_⟩) (h := ?_); rotate_left
         ·intro w hSw; (try dsimp only at hSw); go_simp; (try with_reducible rfl)
         simp only [ps]
         refine tk 23 195 (v := ?_) rfl (hy := .inl ⟨by rfl, ?_⟩) (h := ?_); rotate_left
         ·intro w hSw; (try dsimp only at hSw); go_simp; (try with_reducible rfl)
         simp only [ps]
         refine tk 21 193 (v := ?_) rfl (hy := .inl ⟨by rfl, ?_⟩) (h := ?_); rotate_left
         ·intro w hSw; (try dsimp only at hSw); go_simp; (try with_reducible rfl)
         simp only [ps]
         refine tk 24 196 (v := ?_) rfl (hy := .inl ⟨by rfl, ?_⟩) (h := ?_); rotate_left
         ·intro w hSw; (try dsimp only at hSw); go_simp; (try with_reducible rfl)
         simp only [ps]
         refine tk 22 194 (v := ?_) rfl (hy := .inl ⟨by rfl, ?_⟩) (h := ?_); rotate_left
         ·intro w hSw; (try dsimp only at hSw); go_simp; (try with_reducible rfl)
         simp only [ps]
         refine tk 25 197 (v := ?_) rfl (hy := .inl ⟨by rfl, ?_⟩) (h := ?_); rotate_left
         ·intro w hSw; (try dsimp only at hSw); go_simp; (try with_reducible rfl)
         simp only [ps]
         refine tk 26 198 (v := ?_) rfl (hy := .inl ⟨by rfl, ?_⟩) (h := ?_); rotate_left
         ·intro w hSw; (try dsimp only at hSw); go_simp; (try with_reducible rfl)
         simp only [ps]
         refine tk 27 199 (v := ?_) rfl (hy := .inl ⟨by rfl, ?_⟩) (h := ?_); rotate_left
         ·intro w hSw; (try dsimp only at hSw); go_simp; (try with_reducible rfl)
         simp only [ps]
         refine tk 28 200 (v := ?_) rfl (hy := .inl ⟨by rfl, ?_⟩) (h := ?_); rotate_left
         ·intro w hSw; (try dsimp only at hSw); go_simp; (try with_reducible rfl)
         simp only [ps]
         refine tk 30 202 (v := ?_) rfl (hy := .inl ⟨by rfl, ?_⟩) (h := ?_); rotate_left
         ·intro w hSw; (try dsimp only at hSw); go_simp; (try with_reducible rfl)
         simp only [ps]
         refine tk 29 201 (v := ?_) rfl (hy := .inl ⟨by rfl, ?_⟩) (h := ?_); rotate_left
         ·intro w hSw; (try dsimp only at hSw); go_simp; (try with_reducible rfl)
         simp only [ps]
         refine tk 31 203 (v := ?_) rfl (hy := .inl ⟨by rfl, ?_⟩) (h := ?_); rotate_left
         ·intro w hSw; (try dsimp only at hSw); go_simp; (try with_reducible rfl)
         simp only [ps]
         refine ready_at (i := 32) rfl (by kernel_rfl) (fun KK hKK => ?_)
         go_simp
         have hgo := bz1
         refine (unhide EX2 _ (unhide HE _ (Bw21.trans (hgo.mono Bw21.size)))).mono ?_
         rintro e wz20_2 ⟨rfl, bb⟩
         have bz2 : Below w21.heap.size w21 wz20_2 := bz1.trans (bb.mono bz1.size)
         clear bz1 hgo bb
         clear hHeld
         refine hKK.out _ _ (unhide K _ bz2) (fun hHeld => ?_)
         clear hKK KK
         refine tk 33 205 (v := ?_) rfl (hy := .inl ⟨by rfl, ?_⟩) (h := ?_); rotate_left
         ·intro w hSw; (try dsimp only at hSw); go_simp; (try with_reducible rfl)
         simp only [ps]
         refine tk 34 206 (v := ?_) rfl (hy := .inl ⟨by rfl, ?_⟩) (h := ?_); rotate_left
         ·intro w hSw; (try dsimp only at hSw); go_simp; (try with_reducible rfl)
         simp only [ps]
         refine tk 35 207 (v := ?_) rfl (hy := .inl ⟨by rfl, ?_⟩) (h := ?_); rotate_left
         ·intro w hSw; (try dsimp only at hSw); go_simp; (try with_reducible rfl)
         simp only [ps]
         refine tk 36 208 (v := ?_) rfl (hy := .inl ⟨by rfl, ?_⟩) (h := ?_); rotate_left
         ·intro w hSw; (try dsimp only at hSw); go_simp; (try with_reducible rfl)
         simp only [ps]
         refine tk 37 209 (v := ?_) rfl (hy := .inl ⟨by rfl, ?_⟩) (h := ?_); rotate_left
         ·intro w hSw; (try dsimp only at hSw); go_simp; (try with_reducible rfl)
         simp only [ps]
         refine tk 39 211 (v := ?_) rfl (hy := .inl ⟨by rfl, ?_⟩) (h := ?_); rotate_left
         ·intro w hSw; (try dsimp only at hSw); go_simp; (try with_reducible rfl)
         simp only [ps]
         refine ready_at (i := 38) rfl (by kernel_rfl) (fun KK hKK => ?_)
         go_simp
         have hgo := bz2
         refine (unhide IS2 _ ((unhide OA).below hgo (Nat.le_refl _)) ((unhide P).below hgo (Nat.le_refl _)) (unhide HE _ (Bw21.trans (hgo.mono Bw21.size)))).mono ?_
         rintro e wz20_3 ⟨uK, rfl, OK, bb⟩
         have bz3 : Below w21.heap.size w21 wz20_3 := bz2.trans (bb.mono bz2.size)
         replace OK := OI.ri OK (by omega)
         obtain ⟨aK, cK, rfl⟩ := OK.form
         replace OK := hide OK
         clear bz2 hgo bb
         clear hHeld
         refine hKK.out _ _ (unhide K _ bz3) (fun hHeld => ?_)
         clear hKK KK
         refine ready_at (i := 40) rfl (by kernel_rfl) (fun KK hKK => ?_)
         go_simp
         have hgo := bz3
         refine (unhide SA _ _ _ _ _ (unhide OK) ((unhide OA).below hgo (Nat.le_refl _))).mono ?_
         rintro e wz20_4 ⟨rfl, bb⟩
         have bz4 : Below w21.heap.size w21 wz20_4 := bz3.trans (bb.mono bz3.size)
         clear OK
         clear bz3 hgo bb
         clear hHeld
         refine hKK.out _ _ (unhide K _ bz4) (fun hHeld => ?_)
         clear hKK KK
         refine tk 41 213 (v := ?_) rfl (hy := .inl ⟨by rfl, ?_⟩) (h := ?_); rotate_left
         ·intro w hSw; (try dsimp only at hSw); go_simp; (try with_reducible rfl)
         simp only [ps]
         refine tk 42 2 (v := ?_) rfl (hy := .inl ⟨by rfl, ?_⟩) (h := ?_); rotate_left
         ·intro w hSw; (try dsimp only at hSw); go_simp; (try with_reducible rfl)
         simp only [ps]
         clear hHeld
         refine wpAnyH_done (by kernel_rfl) ?_ _
         refine NoPanic.normal ?_
         have bb := bz4
         have Bwz20_4 := Bw21.trans (bb.mono Bw21.size)
         have swz20_4 := bb.size
         replace LC := LC.below bb LC.lt
         replace LS := LS.below bb LS.lt
         replace LQ := LQ.below bb LQ.lt
         replace LA := LA.below bb LA.lt
         replace LD := LD.below bb LD.lt
         replace LT := LT.below bb LT.lt
         replace LB := LB.below bb LB.lt
         replace LE := LE.below bb LE.lt
         clear Bw21
         replace O := hide ((unhide O).below bb (Nat.le_refl _))
         replace P := hide ((unhide P).below bb (Nat.le_refl _))
         replace OA := hide ((unhide OA).below bb (Nat.le_refl _))
         replace P2 := hide ((unhide P2).below bb (Nat.le_refl _))
         replace OG := hide ((unhide OG).below bb (Nat.le_refl _))
         clear bb bz4 K
         go_wp2
         go_ret
         exact ⟨rfl, Bwz20_4⟩
     ·have eo : o1 = vw := (unhide ho1).symm.trans (unhide HT)
      subst eo
      have hlt := unhide HM rfl
      have k0 : decide (o1 ≤ vo2) = false := by simp; omega
      clear HM HT ho1 hlt
      have cLD0 := LD.cell 0 rfl
      have cLD1 := LD.cell 1 rfl
      have cLE0 := LE.cell 0 rfl
      have cLE1 := LE.cell 1 rfl
      have cLE2 := LE.cell 2 rfl
      have cLE3 := LE.cell 3 rfl
      have cLE4 := LE.cell 4 rfl
      have cLE5 := LE.cell 5 rfl
      have cLB0 := LB.cell 0 rfl
      have cLB1 := LB.cell 1 rfl
      have cLB2 := LB.cell 2 rfl
      have cLB3 := LB.cell 3 rfl
      have cLT0 := LT.cell 0 rfl
      have cLT1 := LT.cell 1 rfl
      have cLT2 := LT.cell 2 rfl
      have cLT3 := LT.cell 3 rfl
      have cLT4 := LT.cell 4 rfl
      have cLT5 := LT.cell 5 rfl
      go_wp2_with fail
      refine (unhide I2 _ _ _ (unhide OG) (unhide P2) (unhide HE _ Bw19)).mono ?_
      rintro _ w20 ⟨rfl, bb⟩
      clear cLD0 cLD1 cLE0 cLE1 cLE2 cLE3 cLE4 cLE5 cLB0 cLB1 cLB2 cLB3 cLT0 cLT1 cLT2 cLT3 cLT4 cLT5
      have Bw20 := Bw19.trans (bb.mono Bw19.size)
      have sw20 := bb.size
      replace LC := LC.below bb LC.lt
      replace LS := LS.below bb LS.lt
      replace LQ := LQ.below bb LQ.lt
      replace LA := LA.below bb LA.lt
      replace LD := LD.below bb LD.lt
      replace LT := LT.below bb LT.lt
      replace LB := LB.below bb LB.lt
      replace LE := LE.below bb LE.lt
      clear Bw19
      replace O := hide ((unhide O).below bb (Nat.le_refl _))
      replace P := hide ((unhide P).below bb (Nat.le_refl _))
      replace OA := hide ((unhide OA).below bb (Nat.le_refl _))
      replace P2 := hide ((unhide P2).below bb (Nat.le_refl _))
      replace OG := hide ((unhide OG).below bb (Nat.le_refl _))
      clear bb
      clear I2 k0
      as_aux_lemma =>
       have cLC0 := LC.cell 0 rfl
       have cLC1 := LC.cell 1 rfl
       have cLS0 := LS.cell 0 rfl
       have cLS1 := LS.cell 1 rfl
       have cLS2 := LS.cell 2 rfl
       have cLS3 := LS.cell 3 rfl
       have cLS4 := LS.cell 4 rfl
       have cLS5 := LS.cell 5 rfl
       go_wp2_with fail
       refine (unhide IK _ (unhide O) (unhide HE _ Bw20)).mono ?_
       rintro _ w21 ⟨rfl, bb⟩
       clear cLC0 cLC1 cLS0 cLS1 cLS2 cLS3 cLS4 cLS5
       have Bw21 := Bw20.trans (bb.mono Bw20.size)
       have sw21 := bb.size
       replace LC := LC.below bb LC.lt
       replace LS := LS.below bb LS.lt
       replace LQ := LQ.below bb LQ.lt
       replace LA := LA.below bb LA.lt
       replace LD := LD.below bb LD.lt
       replace LT := LT.below bb LT.lt
       replace LB := LB.below bb LB.lt
       replace LE := LE.below bb LE.lt
       clear Bw20
       replace O := hide ((unhide O).below bb (Nat.le_refl _))
       replace P := hide ((unhide P).below bb (Nat.le_refl _))
       replace OA := hide ((unhide OA).below bb (Nat.le_refl _))
       replace P2 := hide ((unhide P2).below bb (Nat.le_refl _))
       replace OG := hide ((unhide OG).below bb (Nat.le_refl _))
       clear bb
       clear IK
       cases b1
       ·have SM := hide fun w' (h : RI w' (.slice aA X1.length cA) X1) (h' : RI w' (.slice aO xs.length cO) xs) => implSafeSame vo L1 V1 T1 aA cA X1 D1 vo lo v s aO cO xs d w' h h'
        rw [unhide FN rfl] at SM
        clear FN FY
        have cLA0 := LA.cell 0 rfl
        have cLA1 := LA.cell 1 rfl
        have cLA2 := LA.cell 2 rfl
        have cLA3 := LA.cell 3 rfl
        have cLA4 := LA.cell 4 rfl
        have cLA5 := LA.cell 5 rfl
        have cLS0 := LS.cell 0 rfl
        have cLS1 := LS.cell 1 rfl
        have cLS2 := LS.cell 2 rfl
        have cLS3 := LS.cell 3 rfl
        have cLS4 := LS.cell 4 rfl
        have cLS5 := LS.cell 5 rfl
        go_wp2_with fail
        refine (unhide SM _ (unhide OA) (unhide O)).mono ?_
        rintro _ w22 ⟨rfl, bb⟩
        clear cLA0 cLA1 cLA2 cLA3 cLA4 cLA5 cLS0 cLS1 cLS2 cLS3 cLS4 cLS5
        have Bw22 := Bw21.trans (bb.mono Bw21.size)
        have sw22 := bb.size
        replace LC := LC.below bb LC.lt
        replace LS := LS.below bb LS.lt
        replace LQ := LQ.below bb LQ.lt
        replace LA := LA.below bb LA.lt
        replace LD := LD.below bb LD.lt
        replace LT := LT.below bb LT.lt
        replace LB := LB.below bb LB.lt
        replace LE := LE.below bb LE.lt
        clear Bw21
        replace O := hide ((unhide O).below bb (Nat.le_refl _))
        replace P := hide ((unhide P).below bb (Nat.le_refl _))
        replace OA := hide ((unhide OA).below bb (Nat.le_refl _))
        replace P2 := hide ((unhide P2).below bb (Nat.le_refl _))
        replace OG := hide ((unhide OG).below bb (Nat.le_refl _))
        clear bb
        go_wp2
        go_ret
        exact ⟨rfl, Bw22⟩
       ·have cLC0 := LC.cell 0 rfl
        have cLC1 := LC.cell 1 rfl
        have cLQ0 := LQ.cell 0 rfl
        have cLQ1 := LQ.cell 1 rfl
        have cLQ2 := LQ.cell 2 rfl
        go_wp2_with fail
        refine (unhide QK _ (unhide P) (unhide HE _ Bw21)).mono ?_
        rintro _ w22 ⟨rfl, bb⟩
        clear cLC0 cLC1 cLQ0 cLQ1 cLQ2
        have Bw22 := Bw21.trans (bb.mono Bw21.size)
        have sw22 := bb.size
        replace LC := LC.below bb LC.lt
        replace LS := LS.below bb LS.lt
        replace LQ := LQ.below bb LQ.lt
        replace LA := LA.below bb LA.lt
        replace LD := LD.below bb LD.lt
        replace LT := LT.below bb LT.lt
        replace LB := LB.below bb LB.lt
        replace LE := LE.below bb LE.lt
        clear Bw21
        replace O := hide ((unhide O).below bb (Nat.le_refl _))
        replace P := hide ((unhide P).below bb (Nat.le_refl _))
        replace OA := hide ((unhide OA).below bb (Nat.le_refl _))
        replace P2 := hide ((unhide P2).below bb (Nat.le_refl _))
        replace OG := hide ((unhide OG).below bb (Nat.le_refl _))
        clear bb
        clear QK
        cases b2
        ·have SM := hide fun w' (h : RI w' (.slice aA X1.length cA) X1) (h' : RI w' (.slice aO xs.length cO) xs) => implSafeSame vo L1 V1 T1 aA cA X1 D1 vo lo v s aO cO xs d w' h h'
         rw [unhide FN rfl] at SM
         clear FN FY
         have cLA0 := LA.cell 0 rfl
         have cLA1 := LA.cell 1 rfl
         have cLA2 := LA.cell 2 rfl
         have cLA3 := LA.cell 3 rfl
         have cLA4 := LA.cell 4 rfl
         have cLA5 := LA.cell 5 rfl
         have cLS0 := LS.cell 0 rfl
         have cLS1 := LS.cell 1 rfl
         have cLS2 := LS.cell 2 rfl
         have cLS3 := LS.cell 3 rfl
         have cLS4 := LS.cell 4 rfl
         have cLS5 := LS.cell 5 rfl
         go_wp2_with fail
         refine (unhide SM _ (unhide OA) (unhide O)).mono ?_
         rintro _ w23 ⟨rfl, bb⟩
         clear cLA0 cLA1 cLA2 cLA3 cLA4 cLA5 cLS0 cLS1 cLS2 cLS3 cLS4 cLS5
         have Bw23 := Bw22.trans (bb.mono Bw22.size)
         have sw23 := bb.size
         replace LC := LC.below bb LC.lt
         replace LS := LS.below bb LS.lt
         replace LQ := LQ.below bb LQ.lt
         replace LA := LA.below bb LA.lt
         replace LD := LD.below bb LD.lt
         replace LT := LT.below bb LT.lt
         replace LB := LB.below bb LB.lt
         replace LE := LE.below bb LE.lt
         clear Bw22
         replace O := hide ((unhide O).below bb (Nat.le_refl _))
         replace P := hide ((unhide P).below bb (Nat.le_refl _))
         replace OA := hide ((unhide OA).below bb (Nat.le_refl _))
         replace P2 := hide ((unhide P2).below bb (Nat.le_refl _))
         replace OG := hide ((unhide OG).below bb (Nat.le_refl _))
         clear bb
         go_wp2
         go_ret
         exact ⟨rfl, Bw23⟩
        ·obtain ⟨y1, y2, y3, y4, y5, y6, y7, y8, y9, y10, y11⟩ := unhide FY rfl
         clear FY FN
         have IK2 := hide fun w' (h : RI w' (.slice aA X1.length cA) X1) (e : Env w') => implSafeOk n f vo L1 V1 T1 aA cA X1 D1 w' (by omega) (by omega) e h
         rw [y1] at IK2
         have EX2 := hide fun w' (e : Env w') => implExtends D1 d w' (by omega) (by omega) e
         rw [y5] at EX2
         have IS2 := hide fun w' (h : RI w' (.slice aA X1.length cA) X1) (h' : RI w' (.slice aP ys.length cP) ys) (e : Env w') => implSee n f vo L1 V1 T1 aA cA X1 D1 v' s' aP cP ys w' (by omega) (by omega) (by omega) e h h'
         simp only [y6, y7, y8, y9, y10, y11] at IS2
         have k1 : decide (lo ≤ L1) = true := by simpa using y2
         have k2 : decide (v ≤ V1) = true := by simpa using y3
         have k3 : decide (v' ≤ V1) = true := by simpa using y4
         clear y1 y2 y3 y4 y5 y6 y7 y8 y9 y10 y11
         have K : Hid (∀ w', Below w22.heap.size w22 w' → (fun w' => Below w22.heap.size w22 w' ∧ (w'.cell? ⟨w2.heap.size, 0, none⟩ = some (.int .i64 n) ∧ w'.cell? ⟨w2.heap.size, 1, none⟩ = some (.int .i64 f)) ∧ (w'.cell? ⟨w2.heap.size + 1, 0, none⟩ = some (.int .i64 vo) ∧ w'.cell? ⟨w2.heap.size + 1, 1, none⟩ = some (.int .i64 lo) ∧ w'.cell? ⟨w2.heap.size + 1, 2, none⟩ = some (.int .i64 v) ∧ w'.cell? ⟨w2.heap.size + 1, 3, none⟩ = some (.string s) ∧ w'.cell? ⟨w2.heap.size + 1, 4, none⟩ = some (.slice aO xs.length cO) ∧ w'.cell? ⟨w2.heap.size + 1, 5, none⟩ = some (.string d)) ∧ (w'.cell? ⟨w2.heap.size + 1 + 1, 0, none⟩ = some (.int .i64 v') ∧ w'.cell? ⟨w2.heap.size + 1 + 1, 1, none⟩ = some (.string s') ∧ w'.cell? ⟨w2.heap.size + 1 + 1, 2, none⟩ = some (.slice aP ys.length cP)) ∧ (w'.cell? ⟨w4.heap.size, 0, none⟩ = some (.int .i64 vo) ∧ w'.cell? ⟨w4.heap.size, 1, none⟩ = some (.int .i64 L1) ∧ w'.cell? ⟨w4.heap.size, 2, none⟩ = some (.int .i64 V1) ∧ w'.cell? ⟨w4.heap.size, 3, none⟩ = some (.string T1) ∧ w'.cell? ⟨w4.heap.size, 4, none⟩ = some (.slice aA X1.length cA) ∧ w'.cell? ⟨w4.heap.size, 5, none⟩ = some (.string D1))) w') := hide fun w' hb' => ⟨hb', ⟨(LC.below hb' LC.lt).cell 0 rfl, (LC.below hb' LC.lt).cell 1 rfl⟩, ⟨(LS.below hb' LS.lt).cell 0 rfl, (LS.below hb' LS.lt).cell 1 rfl, (LS.below hb' LS.lt).cell 2 rfl, (LS.below hb' LS.lt).cell 3 rfl, (LS.below hb' LS.lt).cell 4 rfl, (LS.below hb' LS.lt).cell 5 rfl⟩, ⟨(LQ.below hb' LQ.lt).cell 0 rfl, (LQ.below hb' LQ.lt).cell 1 rfl, (LQ.below hb' LQ.lt).cell 2 rfl⟩, ⟨(LA.below hb' LA.lt).cell 0 rfl, (LA.below hb' LA.lt).cell 1 rfl, (LA.below hb' LA.lt).cell 2 rfl, (LA.below hb' LA.lt).cell 3 rfl, (LA.below hb' LA.lt).cell 4 rfl, (LA.below hb' LA.lt).cell 5 rfl⟩⟩
         go_upto_region 20 with fail
         have bA : Below w22.heap.size w22 w22.drew := Below.drew (Below.refl _ _)
         refine wp_region_noPanic ?_
         refine wp_region_held_drew (S := fun w' => Below w22.heap.size w22 w' ∧ (w'.cell? ⟨w2.heap.size, 0, none⟩ = some (.int .i64 n) ∧ w'.cell? ⟨w2.heap.size, 1, none⟩ = some (.int .i64 f)) ∧ (w'.cell? ⟨w2.heap.size + 1, 0, none⟩ = some (.int .i64 vo) ∧ w'.cell? ⟨w2.heap.size + 1, 1, none⟩ = some (.int .i64 lo) ∧ w'.cell? ⟨w2.heap.size + 1, 2, none⟩ = some (.int .i64 v) ∧ w'.cell? ⟨w2.heap.size + 1, 3, none⟩ = some (.string s) ∧ w'.cell? ⟨w2.heap.size + 1, 4, none⟩ = some (.slice aO xs.length cO) ∧ w'.cell? ⟨w2.heap.size + 1, 5, none⟩ = some (.string d)) ∧ (w'.cell? ⟨w2.heap.size + 1 + 1, 0, none⟩ = some (.int .i64 v') ∧ w'.cell? ⟨w2.heap.size + 1 + 1, 1, none⟩ = some (.string s') ∧ w'.cell? ⟨w2.heap.size + 1 + 1, 2, none⟩ = some (.slice aP ys.length cP)) ∧ (w'.cell? ⟨w4.heap.size, 0, none⟩ = some (.int .i64 vo) ∧ w'.cell? ⟨w4.heap.size, 1, none⟩ = some (.int .i64 L1) ∧ w'.cell? ⟨w4.heap.size, 2, none⟩ = some (.int .i64 V1) ∧ w'.cell? ⟨w4.heap.size, 3, none⟩ = some (.string T1) ∧ w'.cell? ⟨w4.heap.size, 4, none⟩ = some (.slice aA X1.length cA) ∧ w'.cell? ⟨w4.heap.size, 5, none⟩ = some (.string D1))) (by kernel_rfl) (unhide K _ bA) (fun hHeld => ?_)
         refine tk 0 172 (v := ?_) rfl (hy := .inl ⟨by rfl, ?_⟩) (h := ?_); rotate_left
         ·intro w hSw; (try dsimp only at hSw); go_simp; (try with_reducible rfl)
         simp only [ps]
         refine tk 1 173 (v := ?_) rfl (hy := .inl ⟨by rfl, ?_⟩) (h := ?_); rotate_left
         ·intro w hSw; (try dsimp only at hSw); go_simp; (try with_reducible rfl)
         simp only [ps]
         refine ready_at (i := 2) rfl (by kernel_rfl) (fun KK hKK => ?_)
         go_simp
         have hgo := bA
         refine (unhide IK2 _ ((unhide OA).below hgo (Nat.le_refl _)) (unhide HE _ (Bw22.trans (hgo.mono Bw22.size)))).mono ?_
         rintro e wz20_1 ⟨rfl, bb⟩
         have bz1 : Below w22.heap.size w22 wz20_1 := bA.trans (bb.mono bA.size)
         clear bA hgo bb
         clear hHeld
         refine hKK.out _ _ (unhide K _ bz1) (fun hHeld => ?_)
         clear hKK KK
         refine tk 3 175 (v := ?_) rfl (hy := .inl ⟨by rfl, ?_⟩) (h := ?_); rotate_left
         ·intro w hSw; (try dsimp only at hSw); go_simp; (try with_reducible rfl)
         simp only [ps]
         refine tk 4 176 (v := ?_) rfl (hy := .inl ⟨by rfl, ?_⟩) (h := ?_); rotate_left
         ·intro w hSw; (try dsimp only at hSw); go_simp; (try with_reducible rfl)
         simp only [ps]
         refine tk 6 178 (v := ?_) rfl (hy := .inl ⟨by rfl, ?_⟩) (h := ?_); rotate_left
         ·intro w hSw; (try dsimp only at hSw); go_simp; (try with_reducible rfl)
         simp only [ps]
         refine tk 5 177 (v := ?_) rfl (hy := .inl ⟨by rfl, ?_⟩) (h := ?_); rotate_left
         ·intro w hSw; (try dsimp only at hSw); go_simp; (try with_reducible rfl)
         simp only [ps]
         refine tk 7 179 (v := ?_) rfl (hy := .inl ⟨by rfl, ?_⟩) (h := ?_); rotate_left
         ·intro w hSw; (try dsimp only at hSw); go_simp; (try with_reducible rfl)
         simp only [ps]
         refine tk 8 180 (v := ?_) rfl (hy := .inl ⟨by rfl, ?_⟩) (h := ?_); rotate_left
         ·intro w hSw; (try dsimp only at hSw); go_simp; (try with_reducible rfl)
         simp only [ps]
         refine tk 9 181 (v := ?_) rfl (hy := .inl ⟨by rfl, ?_⟩) (h := ?_); rotate_left
         ·intro w hSw; (try dsimp only at hSw); go_simp; (try with_reducible rfl)
         simp only [ps]
         refine tk 10 182 (v := ?_) rfl (hy := .inl ⟨by rfl, ?_⟩) (h := ?_); rotate_left
         ·intro w hSw; (try dsimp only at hSw); go_simp; (try with_reducible rfl)
         simp only [ps]
         refine tk 11 183 (v := ?_) rfl (hy := .inl ⟨by rfl, ?_⟩) (h := ?_); rotate_left
         ·intro w hSw; (try dsimp only at hSw); go_simp; (try with_reducible rfl)
         simp only [ps]
         refine tk 14 186 (v := ?_) rfl (hy := .inl ⟨by rfl, ?_⟩) (h := ?_); rotate_left
         ·intro w hSw; (try dsimp only at hSw); go_simp; (try with_reducible rfl)
         simp only [ps]
         refine tk 12 184 (v := ?_) rfl (hy := .inl ⟨by rfl, ?_⟩) (h := ?_); rotate_left
         ·intro w hSw; (try dsimp only at hSw); go_simp; (try with_reducible rfl)
         simp only [ps]
         refine tk 15 187 (v := ?_) rfl (hy := .inl ⟨by rfl, ?_⟩) (h := ?_); rotate_left
         ·intro w hSw; (try dsimp only at hSw); go_simp; (try with_reducible rfl)
         simp only [ps]
         refine tk 13 185 (v := ?_) rfl (hy := .inl ⟨by rfl, ?_⟩) (h := ?_); rotate_left
         ·intro w hSw; (try dsimp only at hSw); go_simp; (try with_reducible rfl)
         simp only [ps]
         refine tk 16 188 (v := ?_) rfl (hy := .inl ⟨by rfl, ?_⟩) (h := ?_); rotate_left
         ·intro w hSw; (try dsimp only at hSw); go_simp; (try with_reducible rfl)
         simp only [ps]
         refine tk 17 189 (v := ?_) rfl (hy := .inl ⟨by rfl, ?_⟩) (h := ?_); rotate_left
         ·intro w hSw; (try dsimp only at hSw); go_simp; (try with_reducible rfl)
         simp only [ps]
         refine tk 18 190 (v := ?_) rfl (hy := .inl ⟨by rfl, ?_⟩) (h := ?_); rotate_left
         ·intro w hSw; (try dsimp only at hSw); go_simp; (try with_reducible rfl)
         simp only [ps]
         refine tk 19 191 (v := ?_) rfl (hy := .inl ⟨by rfl, ?_⟩) (h := ?_); rotate_left
         ·intro w hSw; (try dsimp only at hSw); go_simp; (try with_reducible rfl)
         simp only [ps]
         refine tk 20 192 (v := ?_) rfl (hy := .inl ⟨by rfl, ?_⟩) (h := ?_); rotate_left
         ·intro w hSw; (try dsimp only at hSw); go_simp; (try with_reducible rfl)
         simp only [ps]
         refine tk 23 195 (v := ?_) rfl (hy := .inl ⟨by rfl, ?_⟩) (h := ?_); rotate_left
         ·intro w hSw; (try dsimp only at hSw); go_simp; (try with_reducible rfl)
         simp only [ps]
         refine tk 21 193 (v := ?_) rfl (hy := .inl ⟨by rfl, ?_⟩) (h := ?_); rotate_left
         ·intro w hSw; (try dsimp only at hSw); go_simp; (try with_reducible rfl)
         simp only [ps]
         refine tk 24 196 (v := ?_) rfl (hy := .inl ⟨by rfl, ?_⟩) (h := ?_); rotate_left
         ·intro w hSw; (try dsimp only at hSw); go_simp; (try with_reducible rfl)
         simp only [ps]
         refine tk 22 194 (v := ?_) rfl (hy := .inl ⟨by rfl, ?_⟩) (h := ?_); rotate_left
         ·intro w hSw; (try dsimp only at hSw); go_simp; (try with_reducible rfl)
         simp only [ps]
         refine tk 25 197 (v := ?_) rfl (hy := .inl ⟨by rfl, ?_⟩) (h := ?_); rotate_left
         ·intro w hSw; (try dsimp only at hSw); go_simp; (try with_reducible rfl)
         simp only [ps]
         refine tk 26 198 (v := ?_) rfl (hy := .inl ⟨by rfl, ?_⟩) (h := ?_); rotate_left
         ·intro w hSw; (try dsimp only at hSw); go_simp; (try with_reducible rfl)
         simp only [ps]
         refine tk 27 199 (v := ?_) rfl (hy := .inl ⟨by rfl, ?_⟩) (h := ?_); rotate_left
         ·intro w hSw; (try dsimp only at hSw); go_simp; (try with_reducible rfl)
         simp only [ps]
         refine tk 28 200 (v := ?_) rfl (hy := .inl ⟨by rfl, ?_⟩) (h := ?_); rotate_left
         ·intro w hSw; (try dsimp only at hSw); go_simp; (try with_reducible rfl)
         simp only [ps]
         refine tk 30 202 (v := ?_) rfl (hy := .inl ⟨by rfl, ?_⟩) (h := ?_); rotate_left
         ·intro w hSw; (try dsimp only at hSw); go_simp; (try with_reducible rfl)
         simp only [ps]
         refine tk 29 201 (v := ?_) rfl (hy := .inl ⟨by rfl, ?_⟩) (h := ?_); rotate_left
         ·intro w hSw; (try dsimp only at hSw); go_simp; (try with_reducible rfl)
         simp only [ps]
         refine tk 31 203 (v := ?_) rfl (hy := .inl ⟨by rfl, ?_⟩) (h := ?_); rotate_left
         ·intro w hSw; (try dsimp only at hSw); go_simp; (try with_reducible rfl)
         simp only [ps]
         refine ready_at (i := 32) rfl (by kernel_rfl) (fun KK hKK => ?_)
         go_simp
         have hgo := bz1
         refine (unhide EX2 _ (unhide HE _ (Bw22.trans (hgo.mono Bw22.size)))).mono ?_
         rintro e wz20_2 ⟨rfl, bb⟩
         have bz2 : Below w22.heap.size w22 wz20_2 := bz1.trans (bb.mono bz1.size)
         clear bz1 hgo bb
         clear hHeld
         refine hKK.out _ _ (unhide K _ bz2) (fun hHeld => ?_)
         clear hKK KK
         refine tk 33 205 (v := ?_) rfl (hy := .inl ⟨by rfl, ?_⟩) (h := ?_); rotate_left
         ·intro w hSw; (try dsimp only at hSw); go_simp; (try with_reducible rfl)
         simp only [ps]
         refine tk 34 206 (v := ?_) rfl (hy := .inl ⟨by rfl, ?_⟩) (h := ?_); rotate_left
         ·intro w hSw; (try dsimp only at hSw); go_simp; (try with_reducible rfl)
         simp only [ps]
         refine tk 35 207 (v := ?_) rfl (hy := .inl ⟨by rfl, ?_⟩) (h := ?_); rotate_left
         ·intro w hSw; (try dsimp only at hSw); go_simp; (try with_reducible rfl)
         simp only [ps]
         refine tk 36 208 (v := ?_) rfl (hy := .inl ⟨by rfl, ?_⟩) (h := ?_); rotate_left
         ·intro w hSw; (try dsimp only at hSw); go_simp; (try with_reducible rfl)
         simp only [ps]
         refine tk 37 209 (v := ?_) rfl (hy := .inl ⟨by rfl, ?_⟩) (h := ?_); rotate_left
         ·intro w hSw; (try dsimp only at hSw); go_simp; (try with_reducible rfl)
         simp only [ps]
         refine tk 39 211 (v := ?_) rfl (hy := .inl ⟨by rfl, ?_⟩) (h := ?_); rotate_left
         ·intro w hSw; (try dsimp only at hSw); go_simp; (try with_reducible rfl)
         simp only [ps]
         refine ready_at (i := 38) rfl (by kernel_rfl) (fun KK hKK => ?_)
         go_simp
         have hgo := bz2
         refine (unhide IS2 _ ((unhide OA).below hgo (Nat.le_refl _)) ((unhide P).below hgo (Nat.le_refl _)) (unhide HE _ (Bw22.trans (hgo.mono Bw22.size)))).mono ?_
         rintro e wz20_3 ⟨uK, rfl, OK, bb⟩
         have bz3 : Below w22.heap.size w22 wz20_3 := bz2.trans (bb.mono bz2.size)
         replace OK := OI.ri OK (by omega)
         obtain ⟨aK, cK, rfl⟩ := OK.form
         replace OK := hide OK
         clear bz2 hgo bb
         clear hHeld
         refine hKK.out _ _ (unhide K _ bz3) (fun hHeld => ?_)
         clear hKK KK
         refine ready_at (i := 40) rfl (by kernel_rfl) (fun KK hKK => ?_)
         go_simp
         have hgo := bz3
         refine (unhide SA _ _ _ _ _ (unhide OK) ((unhide OA).below hgo (Nat.le_refl _))).mono ?_
         rintro e wz20_4 ⟨rfl, bb⟩
         have bz4 : Below w22.heap.size w22 wz20_4 := bz3.trans (bb.mono bz3.size)
         clear OK
         clear bz3 hgo bb
         clear hHeld
         refine hKK.out _ _ (unhide K _ bz4) (fun hHeld => ?_)
         clear hKK KK
         refine tk 41 213 (v := ?_) rfl (hy := .inl ⟨by rfl, ?_⟩) (h := ?_); rotate_left
         ·intro w hSw; (try dsimp only at hSw); go_simp; (try with_reducible rfl)
         simp only [ps]
         refine tk 42 2 (v := ?_) rfl (hy := .inl ⟨by rfl, ?_⟩) (h := ?_); rotate_left
         ·intro w hSw; (try dsimp only at hSw); go_simp; (try with_reducible rfl)
         simp only [ps]
         clear hHeld
         refine wpAnyH_done (by kernel_rfl) ?_ _
         refine NoPanic.normal ?_
         have bb := bz4
         have Bwz20_4 := Bw22.trans (bb.mono Bw22.size)
         have swz20_4 := bb.size
         replace LC := LC.below bb LC.lt
         replace LS := LS.below bb LS.lt
         replace LQ := LQ.below bb LQ.lt
         replace LA := LA.below bb LA.lt
         replace LD := LD.below bb LD.lt
         replace LT := LT.below bb LT.lt
         replace LB := LB.below bb LB.lt
         replace LE := LE.below bb LE.lt
         clear Bw22
         replace O := hide ((unhide O).below bb (Nat.le_refl _))
         replace P := hide ((unhide P).below bb (Nat.le_refl _))
         replace OA := hide ((unhide OA).below bb (Nat.le_refl _))
         replace P2 := hide ((unhide P2).below bb (Nat.le_refl _))
         replace OG := hide ((unhide OG).below bb (Nat.le_refl _))
         clear bb bz4 K
         go_wp2
         go_ret
         exact ⟨rfl, Bwz20_4⟩

set_option maxHeartbeats 16000000 in
set_option maxRecDepth 100000 in
theorem fnSafe_long (ao : Option Addr) (n ca : Nat) (w : World) (h : 1048576 < n) (hm : n ≤ maxLen) :
 Calls Tryz.prog 3 #[.slice ao n ca] w fun e w' => e = .returned (.bool true) ∧ Below w.heap.size w w' := by
 have BG := hide fun w => big_any ao n ca w (by unfold maxLen at hm; omega)
 rw [decide_eq_true h] at BG
 go_enter Tryz.func3, Tryz.ntmps3
 go_wp2_with fail
 refine (unhide BG _).mono ?_
 rintro _ w1 ⟨rfl, b1⟩
 go_wp2
 go_ret
 exact ⟨rfl, b1⟩
theorem fnSafe_walk (ao : Option Addr) (ca : Nat) (zs : List Int) (w : World) (hm : zs.length ≤ maxLen) (hx : zs = [] ∨ ∃ b off, ao = some ⟨b, off, none⟩ ∧ ∀ k, k < zs.length → w.cell? ⟨b, off + k, none⟩ = some (.int .u8 (zs.getD k 0))) (hb : ∀ k, k < zs.length → 0 ≤ zs.getD k 0 ∧ zs.getD k 0 ≤ 255) (hE : Env w) :
 Calls Tryz.prog 3 #[.slice ao zs.length ca] w fun e w' => e = .returned (.bool true) ∧ Below w.heap.size w w' := by
 by_cases h : zs.length ≤ 1048576
 ·exact fnSafe_short ao ca zs w ⟨h, hx, hb⟩ hE
 ·exact fnSafe_long ao zs.length ca w (by omega) hm
end Go.Proofs.YtmpmedbojfjnaaaGreatDoor
