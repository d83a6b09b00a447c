/- The walk of laws.FnParts. -/
import Derived.Test.YtjkcphnohhpihaaGreatDoorPPBM
import Derived.Test.YtjkcphnohhpihaaGreatDoorPPBN
set_option maxRecDepth 100000
set_option maxHeartbeats 64000000
set_option linter.unusedSectionVars false
namespace Go.Proofs.YtjkcphnohhpihaaGreatDoor
section
open Go.RowKit
variable [∀ (a b c d : Int), Decidable (Ok4 a b c d)]
variable [∀ (a b c d : Nat), Decidable (okN a b c d)]
variable [∀ (x : T4), Decidable (OkT x)]
variable [∀ (last : Int) (s : St), Decidable (GoodSt last s)]
variable [∀ (n f : Int), Decidable (COk n f)]
variable [∀ (n : Int) (s : List Int), Decidable (OkL n s)]
theorem fnParts_short (ao : Option Addr) (ca : Nat) (zs : List Int) (a : Addr) (w : World) (h : DCode w ao zs) (hE : Env w) (G : Gv w a) :
 Calls Tryz.prog 4 #[.slice ao zs.length ca] w fun e w' => e = .returned (.bool true) ∧ Below w.heap.size w w' := by
 have hz:=h.len
 have BG:=hide fun w => big_any ao zs.length ca w (by omega)
 rw [decide_eq_false (show ¬ 1048576 < zs.length by omega)] at BG
 have D1:=hide fun w' (hb : Below w.heap.size w w') => drawPartJoin ao ca zs w' (h.below hb)
 have D2:=hide fun w' (hb : Below w.heap.size w w') => drawTableAdd ao ca zs w' (h.below hb)
 have D3:=hide fun w' (hb : Below w.heap.size w w') => drawPartQc ao ca zs w' (h.below hb)
 have D4:=hide fun w' (hb : Below w.heap.size w w') => drawTableGet ao ca zs w' (h.below hb)
 have D5:=hide fun w' (hb : Below w.heap.size w w') => drawTableDrop ao ca zs w' (h.below hb)
 have D6:=hide fun w' (hb : Below w.heap.size w w') => drawTableOk ao ca zs w' (h.below hb)
 have D7:=hide fun w' (hb : Below w.heap.size w w') => drawPartOk ao ca zs w' (h.below hb)
 have HE:=hide fun w' (hb : Below w.heap.size w w') => hE.below hb
 have GE:=hide fun w' (hb : Below w.heap.size w w') => G.up hb
 generalize zs.length = zl at *
 clear h hE G
 go_enter Tryz.func4, Tryz.ntmps4
 have Bw : Below w.heap.size w w:=Below.refl _ _
 go_wp2_with fail
 refine (BG.out _).mono ?_
 rintro _ w1 ⟨rfl, bb⟩
 have Bw1:=bu Bw bb
 have sw1:=bb.size
 clear Bw bb BG
 go_wp2_with fail
 refine (D1.out _ Bw1).mono ?_
 rintro _ w2 ⟨va, sa, ua, xa, vb, sb, ub, xb, rfl, hva, hsa, hla, hwa, hvb, hsb, hlb, hwb, OA, OB, bb⟩
 have Bw2:=bu Bw1 bb
 have sw2:=bb.size
 clear Bw1 bb D1
 replace OA:=OI.ri OA (by omega)
 obtain ⟨aA, cA, rfl⟩:=OA.form
 replace OA:=hide OA
 replace OB:=OI.ri OB (by omega)
 obtain ⟨aB, cB, rfl⟩:=OB.form
 replace OB:=hide OB
 have IJ:=hide fun w' (h1 : RI w' (.slice aA (xa).length cA) xa) (h2 : RI w' (.slice aB (xb).length cB) xb) (G : Gv w' a) => implPartJoin va vb sa sb (.slice aA (xa).length cA) (.slice aB (xb).length cB) xa xb a w' (by omega) (by omega) hwa.out hwb.out h1 h2 G
 have SJ:=hide fun w' (h1 : RI w' (.slice aA (xa).length cA) xa) (h2 : RI w' (.slice aB (xb).length cB) xb) => specPartJoin va vb sa sb (.slice aA (xa).length cA) (.slice aB (xb).length cB) xa xb w' (by omega) h1 h2
 have IJ2:=hide fun w' (h1 : RI w' (.slice aA (xa).length cA) xa) (h2 : RI w' (.slice aB (xb).length cB) xb) (G : Gv w' a) h => join_other va vb sa sb (.slice aA (xa).length cA) (.slice aB (xb).length cB) xa xb a w' (by omega) (by omega) hwa.out hwb.out h1 h2 G h
 have hjl : (if samP (va, sa, xa) (vb, sb, xb) = true then joinL xa xb else []).length ≤ 18:=if_len (by have:=join_size xa xb; omega)
 generalize samP (va, sa, xa) (vb, sb, xb) = ok at *
 generalize (if ok = true then va else 0) = jv at *
 generalize (if ok = true then sa else ⟨#[]⟩) = js at *
 generalize (if ok = true then joinL xa xb else []) = jl at *
 go_upto_region 4 with fail
 obtain ⟨w3, hw3⟩ : ∃ y, (w2.alloc (.cells #[.int .i64 va,.string sa,.slice aA (xa).length cA] 36)).alloc (.cells #[.int .i64 vb,.string sb,.slice aB (xb).length cB] 36) = y:=⟨_, rfl⟩
 have bb : Below w2.heap.size w2 w3:=hw3 ▸ qalloc2 _ _ _
 have LA : Loc w3 w2.heap.size #[.int .i64 va,.string sa,.slice aA (xa).length cA]:=hw3 ▸ (loc_at w2 _ _ rfl).alloc _
 have LB : Loc w3 (w2.heap.size + 1) #[.int .i64 vb,.string sb,.slice aB (xb).length cB]:=hw3 ▸ loc_at (w2.alloc _) _ _ (by simp)
 have zw3 : w2.heap.size + 1 + 1 ≤ w3.heap.size:=by rw [← hw3]; simp
 rw [hw3]
 clear hw3
 have Bw3:=bu Bw2 bb
 have sw3:=bb.size
 clear Bw2
 replace OA:=hide (OA.out.below bb)
 replace OB:=hide (OB.out.below bb)
 clear bb
 obtain ⟨cLA0,cLA1,cLA2⟩:=cc3 LA 0 1 2
 obtain ⟨cLB0,cLB1,cLB2⟩:=cc3 LB 0 1 2
 go_wp2_with fail
 refine (IJ.out _ OA.out OB.out (GE.out _ Bw3)).mono ?_
 rintro _ w4 ⟨uj, rfl, OJ, bb⟩
 clear cLA0 cLA1 cLA2 cLB0 cLB1 cLB2
 have Bw4:=bu Bw3 bb
 have sw4:=bb.size
 replace LA:=LA.up bb
 replace LB:=LB.up bb
 clear Bw3
 replace OA:=hide (OA.out.below bb)
 replace OB:=hide (OB.out.below bb)
 clear bb IJ
 replace OJ:=OI.ri OJ (by omega)
 obtain ⟨aJ, cJ, rfl⟩:=OJ.form
 replace OJ:=hide OJ
 go_upto_region 5 with fail
 obtain ⟨w5, hw5⟩ : ∃ y, w4.alloc (.cells #[.int .i64 jv,.string js,.slice aJ (jl).length cJ] 36) = y:=⟨_, rfl⟩
 have bb : Below w4.heap.size w4 w5:=hw5 ▸ qalloc _ _
 have LJ : Loc w5 w4.heap.size #[.int .i64 jv,.string js,.slice aJ (jl).length cJ]:=hw5 ▸ loc_at w4 _ _ rfl
 have zw5 : w4.heap.size + 1 ≤ w5.heap.size:=by rw [← hw5]; simp
 rw [hw5]
 clear hw5
 have Bw5:=bu Bw4 bb
 have sw5:=bb.size
 replace LA:=LA.up bb
 replace LB:=LB.up bb
 clear Bw4
 replace OA:=hide (OA.out.below bb)
 replace OB:=hide (OB.out.below bb)
 replace OJ:=hide (OJ.out.below bb)
 clear bb
 obtain ⟨cLA0,cLA1,cLA2⟩:=cc3 LA 0 1 2
 obtain ⟨cLB0,cLB1,cLB2⟩:=cc3 LB 0 1 2
 go_wp2_with fail
 refine (SJ.out _ OA.out OB.out).mono ?_
 rintro _ w6 ⟨uk, rfl, OK, bb⟩
 clear cLA0 cLA1 cLA2 cLB0 cLB1 cLB2
 have Bw6:=bu Bw5 bb
 have sw6:=bb.size
 replace LA:=LA.up bb
 replace LB:=LB.up bb
 replace LJ:=LJ.up bb
 clear Bw5
 replace OA:=hide (OA.out.below bb)
 replace OB:=hide (OB.out.below bb)
 replace OJ:=hide (OJ.out.below bb)
 clear bb SJ
 replace OK:=OI.ri OK (by omega)
 obtain ⟨aK, cK, rfl⟩:=OK.form
 replace OK:=hide OK
 go_upto_region 6 with fail
 obtain ⟨w7, hw7⟩ : ∃ y, w6.alloc (.cells #[.int .i64 jv,.string js,.slice aK (jl).length cK] 36) = y:=⟨_, rfl⟩
 have bb : Below w6.heap.size w6 w7:=hw7 ▸ qalloc _ _
 have LK : Loc w7 w6.heap.size #[.int .i64 jv,.string js,.slice aK (jl).length cK]:=hw7 ▸ loc_at w6 _ _ rfl
 have zw7 : w6.heap.size + 1 ≤ w7.heap.size:=by rw [← hw7]; simp
 rw [hw7]
 clear hw7
 have Bw7:=bu Bw6 bb
 have sw7:=bb.size
 replace LA:=LA.up bb
 replace LB:=LB.up bb
 replace LJ:=LJ.up bb
 clear Bw6
 replace OA:=hide (OA.out.below bb)
 replace OB:=hide (OB.out.below bb)
 replace OJ:=hide (OJ.out.below bb)
 replace OK:=hide (OK.out.below bb)
 clear bb
 go_wp2_with fail
 refine (D2.out _ Bw7).mono ?_
 rintro _ w8 ⟨n, f, tp, ps, vp, sp, up, xp, rfl, hpl, SMp, TP, hsp, hlp, hwp, OP, bb⟩
 have Bw8:=bu Bw7 bb
 have sw8:=bb.size
 replace LA:=LA.up bb
 replace LB:=LB.up bb
 replace LJ:=LJ.up bb
 replace LK:=LK.up bb
 clear Bw7
 replace OA:=hide (OA.out.below bb)
 replace OB:=hide (OB.out.below bb)
 replace OJ:=hide (OJ.out.below bb)
 replace OK:=hide (OK.out.below bb)
 clear bb D2
 have CP:=hide TP.cap
 replace TP:=TP.rpt (fun q hq => by have:=SMp.out q hq; omega)
 obtain ⟨aT, cT, rfl⟩:=TP.form
 replace TP:=hide TP
 replace OP:=OI.ri OP (by omega)
 obtain ⟨aP, cP, rfl⟩:=OP.form
 replace OP:=hide OP
 have IA:=hide fun w' (h1 : RPt w' (.slice aT (ps).length cT) ps) (h2 : RI w' (.slice aP (xp).length cP) xp) (hE : Env w') (G : Gv w' a) => implTableAdd n f (.slice aT (ps).length cT) ps vp sp (.slice aP (xp).length cP) xp a w' (by omega) (by omega) (by omega) (fun q hq => by have:=SMp.out q hq; exact ⟨by omega, by omega, this.2.2⟩) hwp.out hE G h1 CP.out h2
 have SA:=hide fun w' (h1 : RPt w' (.slice aT (ps).length cT) ps) (h2 : RI w' (.slice aP (xp).length cP) xp) => specTableAdd n f (.slice aT (ps).length cT) ps vp sp (.slice aP (xp).length cP) xp w' (by omega) (by omega) (by omega) (fun q hq => by have:=SMp.out q hq; omega) h1 h2
 have AF:=hide (add_facts (n:=n) (f:=f) (m:=vp) (s:=sp) (xs:=xp) (ps:=ps) _ rfl)
 have S2:=hide (smp_add9 (tokB n f (addP ps (vp, sp, xp)) && pokB n f vp sp xp) (b:=40) (v:=vp) SMp.out hsp hlp hwp.out)
 have HL2 : Hid (_ ≤ _):=hide (add_len_if (tokB n f (addP ps (vp, sp, xp)) && pokB n f vp sp xp) ps (vp, sp, xp))
 generalize (tokB n f (addP ps (vp, sp, xp)) && pokB n f vp sp xp) = put at *
 generalize (if put = true then addP ps (vp, sp, xp) else ps) = rt at *
 have HL3 : Hid (rt.length ≤ 6):=hide (by have:=HL2.out; omega)
 clear HL2 CP
 go_upto_region 7 with fail
 obtain ⟨w9, hw9⟩ : ∃ y, (w8.alloc (.cells #[.int .i64 n,.int .i64 f] 33)).alloc (.cells #[.int .i64 vp,.string sp,.slice aP (xp).length cP] 36) = y:=⟨_, rfl⟩
 have bb : Below w8.heap.size w8 w9:=hw9 ▸ qalloc2 _ _ _
 have LC : Loc w9 w8.heap.size #[.int .i64 n,.int .i64 f]:=hw9 ▸ (loc_at w8 _ _ rfl).alloc _
 have LP : Loc w9 (w8.heap.size + 1) #[.int .i64 vp,.string sp,.slice aP (xp).length cP]:=hw9 ▸ loc_at (w8.alloc _) _ _ (by simp)
 have zw9 : w8.heap.size + 1 + 1 ≤ w9.heap.size:=by rw [← hw9]; simp
 rw [hw9]
 clear hw9
 have Bw9:=bu Bw8 bb
 have sw9:=bb.size
 replace LA:=LA.up bb
 replace LB:=LB.up bb
 replace LJ:=LJ.up bb
 replace LK:=LK.up bb
 clear Bw8
 replace OA:=hide (OA.out.below bb)
 replace OB:=hide (OB.out.below bb)
 replace OJ:=hide (OJ.out.below bb)
 replace OK:=hide (OK.out.below bb)
 replace TP:=hide (TP.out.below bb)
 replace OP:=hide (OP.out.below bb)
 clear bb
 obtain ⟨cLC0,cLC1⟩:=cc2 LC 0 1
 obtain ⟨cLP0,cLP1,cLP2⟩:=cc3 LP 0 1 2
 go_wp2_with fail
 refine (IA.out _ TP.out OP.out (HE.out _ Bw9) (GE.out _ Bw9)).mono ?_
 rintro _ w10 ⟨tt, rfl, TT, bb⟩
 clear cLC0 cLC1 cLP0 cLP1 cLP2
 have Bw10:=bu Bw9 bb
 have sw10:=bb.size
 replace LA:=LA.up bb
 replace LB:=LB.up bb
 replace LJ:=LJ.up bb
 replace LK:=LK.up bb
 replace LC:=LC.up bb
 replace LP:=LP.up bb
 clear Bw9
 replace OA:=hide (OA.out.below bb)
 replace OB:=hide (OB.out.below bb)
 replace OJ:=hide (OJ.out.below bb)
 replace OK:=hide (OK.out.below bb)
 replace TP:=hide (TP.out.below bb)
 replace OP:=hide (OP.out.below bb)
 clear bb IA
 replace TT:=TT.rpt (fun q hq => by have:=S2.out q hq; omega)
 obtain ⟨aTT, cTT, rfl⟩:=TT.form
 replace TT:=hide TT
 obtain ⟨cLC0,cLC1⟩:=cc2 LC 0 1
 obtain ⟨cLP0,cLP1,cLP2⟩:=cc3 LP 0 1 2
 go_wp2_with fail
 refine (SA.out _ TP.out OP.out).mono ?_
 rintro _ w11 ⟨tu, rfl, TU, bb⟩
 clear cLC0 cLC1 cLP0 cLP1 cLP2
 have Bw11:=bu Bw10 bb
 have sw11:=bb.size
 replace LA:=LA.up bb
 replace LB:=LB.up bb
 replace LJ:=LJ.up bb
 replace LK:=LK.up bb
 replace LC:=LC.up bb
 replace LP:=LP.up bb
 clear Bw10
 replace OA:=hide (OA.out.below bb)
 replace OB:=hide (OB.out.below bb)
 replace OJ:=hide (OJ.out.below bb)
 replace OK:=hide (OK.out.below bb)
 replace TP:=hide (TP.out.below bb)
 replace OP:=hide (OP.out.below bb)
 replace TT:=hide (TT.out.below bb)
 clear bb SA
 replace TU:=TU.rpt (fun q hq => by have:=S2.out q hq; omega)
 obtain ⟨aTU, cTU, rfl⟩:=TU.form
 replace TU:=hide TU
 go_wp2_with fail
 refine (D3.out _ Bw11).mono ?_
 rintro _ w12 ⟨nd, fd, vq, sq, uq, xq, rfl, hnd, hfd, hvq, hsq, hlq, hwq, OQ, bb⟩
 have Bw12:=bu Bw11 bb
 have sw12:=bb.size
 replace LA:=LA.up bb
 replace LB:=LB.up bb
 replace LJ:=LJ.up bb
 replace LK:=LK.up bb
 replace LC:=LC.up bb
 replace LP:=LP.up bb
 clear Bw11
 replace OA:=hide (OA.out.below bb)
 replace OB:=hide (OB.out.below bb)
 replace OJ:=hide (OJ.out.below bb)
 replace OK:=hide (OK.out.below bb)
 replace TP:=hide (TP.out.below bb)
 replace OP:=hide (OP.out.below bb)
 replace TT:=hide (TT.out.below bb)
 replace TU:=hide (TU.out.below bb)
 clear bb D3
 replace OQ:=OI.ri OQ (by omega)
 obtain ⟨aQ, cQ, rfl⟩:=OQ.form
 replace OQ:=hide OQ
 have IQ:=hide fun w' (h : RI w' (.slice aQ (xq).length cQ) xq) (hE : Env w') => implPartQc nd fd vq sq (.slice aQ (xq).length cQ) xq w' (by omega) hE h
 have SQ:=hide fun w' (h : RI w' (.slice aQ (xq).length cQ) xq) => specPartQc nd fd vq sq (.slice aQ (xq).length cQ) xq w' (by omega) (by omega) h
 have QF:=hide (qc_facts (n:=nd) (f:=fd) (m:=vq) (s:=sq) (xs:=xq) _ rfl)
 have hyl : (if (decide (sq ≠ ⟨#[]⟩) && qokB nd fd vq sq xq) = true then xq else []).length ≤ 9:=if_len hlq
 have hys : (if (decide (sq ≠ ⟨#[]⟩) && qokB nd fd vq sq xq) = true then sq else ⟨#[]⟩).size ≤ 8001:=if_size hsq
 generalize (decide (sq ≠ ⟨#[]⟩) && qokB nd fd vq sq xq) = iz at *
 generalize (if iz = true then vq else 0) = yv at *
 generalize (if iz = true then sq else ⟨#[]⟩) = ys at *
 generalize (if iz = true then xq else []) = yl at *
 go_upto_region 10 with fail
 obtain ⟨w13, hw13⟩ : ∃ y, (w12.alloc (.cells #[.int .i64 nd,.int .i64 fd] 33)).alloc (.cells #[.int .i64 vq,.string sq,.slice aQ (xq).length cQ] 36) = y:=⟨_, rfl⟩
 have bb : Below w12.heap.size w12 w13:=hw13 ▸ qalloc2 _ _ _
 have LD : Loc w13 w12.heap.size #[.int .i64 nd,.int .i64 fd]:=hw13 ▸ (loc_at w12 _ _ rfl).alloc _
 have LQ : Loc w13 (w12.heap.size + 1) #[.int .i64 vq,.string sq,.slice aQ (xq).length cQ]:=hw13 ▸ loc_at (w12.alloc _) _ _ (by simp)
 have zw13 : w12.heap.size + 1 + 1 ≤ w13.heap.size:=by rw [← hw13]; simp
 rw [hw13]
 clear hw13
 have Bw13:=bu Bw12 bb
 have sw13:=bb.size
 replace LA:=LA.up bb
 replace LB:=LB.up bb
 replace LJ:=LJ.up bb
 replace LK:=LK.up bb
 replace LC:=LC.up bb
 replace LP:=LP.up bb
 clear Bw12
 replace OA:=hide (OA.out.below bb)
 replace OB:=hide (OB.out.below bb)
 replace OJ:=hide (OJ.out.below bb)
 replace OK:=hide (OK.out.below bb)
 replace TP:=hide (TP.out.below bb)
 replace OP:=hide (OP.out.below bb)
 replace TT:=hide (TT.out.below bb)
 replace TU:=hide (TU.out.below bb)
 replace OQ:=hide (OQ.out.below bb)
 clear bb
 obtain ⟨cLD0,cLD1⟩:=cc2 LD 0 1
 obtain ⟨cLQ0,cLQ1,cLQ2⟩:=cc3 LQ 0 1 2
 go_wp2_with fail
 refine (IQ.out _ OQ.out (HE.out _ Bw13)).mono ?_
 rintro _ w14 ⟨ux, rfl, OX, bb⟩
 clear cLD0 cLD1 cLQ0 cLQ1 cLQ2
 have Bw14:=bu Bw13 bb
 have sw14:=bb.size
 replace LA:=LA.up bb
 replace LB:=LB.up bb
 replace LJ:=LJ.up bb
 replace LK:=LK.up bb
 replace LC:=LC.up bb
 replace LP:=LP.up bb
 replace LD:=LD.up bb
 replace LQ:=LQ.up bb
 clear Bw13
 replace OA:=hide (OA.out.below bb)
 replace OB:=hide (OB.out.below bb)
 replace OJ:=hide (OJ.out.below bb)
 replace OK:=hide (OK.out.below bb)
 replace TP:=hide (TP.out.below bb)
 replace OP:=hide (OP.out.below bb)
 replace TT:=hide (TT.out.below bb)
 replace TU:=hide (TU.out.below bb)
 replace OQ:=hide (OQ.out.below bb)
 clear bb IQ
 replace OX:=OI.ri OX (by omega)
 obtain ⟨aX, cX, rfl⟩:=OX.form
 replace OX:=hide OX
 go_upto_region 11 with fail
 obtain ⟨w15, hw15⟩ : ∃ y, w14.alloc (.cells #[.int .i64 yv,.string ys,.slice aX (yl).length cX] 53) = y:=⟨_, rfl⟩
 have bb : Below w14.heap.size w14 w15:=hw15 ▸ qalloc _ _
 have LX : Loc w15 w14.heap.size #[.int .i64 yv,.string ys,.slice aX (yl).length cX]:=hw15 ▸ loc_at w14 _ _ rfl
 have zw15 : w14.heap.size + 1 ≤ w15.heap.size:=by rw [← hw15]; simp
 rw [hw15]
 clear hw15
 have Bw15:=bu Bw14 bb
 have sw15:=bb.size
 replace LA:=LA.up bb
 replace LB:=LB.up bb
 replace LJ:=LJ.up bb
 replace LK:=LK.up bb
 replace LC:=LC.up bb
 replace LP:=LP.up bb
 replace LD:=LD.up bb
 replace LQ:=LQ.up bb
 clear Bw14
 replace OA:=hide (OA.out.below bb)
 replace OB:=hide (OB.out.below bb)
 replace OJ:=hide (OJ.out.below bb)
 replace OK:=hide (OK.out.below bb)
 replace TP:=hide (TP.out.below bb)
 replace OP:=hide (OP.out.below bb)
 replace TT:=hide (TT.out.below bb)
 replace TU:=hide (TU.out.below bb)
 replace OQ:=hide (OQ.out.below bb)
 replace OX:=hide (OX.out.below bb)
 clear bb
 obtain ⟨cLD0,cLD1⟩:=cc2 LD 0 1
 obtain ⟨cLQ0,cLQ1,cLQ2⟩:=cc3 LQ 0 1 2
 go_wp2_with fail
 refine (SQ.out _ OQ.out).mono ?_
 rintro _ w16 ⟨uy, rfl, OY, bb⟩
 clear cLD0 cLD1 cLQ0 cLQ1 cLQ2
 have Bw16:=bu Bw15 bb
 have sw16:=bb.size
 replace LA:=LA.up bb
 replace LB:=LB.up bb
 replace LJ:=LJ.up bb
 replace LK:=LK.up bb
 replace LC:=LC.up bb
 replace LP:=LP.up bb
 replace LD:=LD.up bb
 replace LQ:=LQ.up bb
 replace LX:=LX.up bb
 clear Bw15
 replace OA:=hide (OA.out.below bb)
 replace OB:=hide (OB.out.below bb)
 replace OJ:=hide (OJ.out.below bb)
 replace OK:=hide (OK.out.below bb)
 replace TP:=hide (TP.out.below bb)
 replace OP:=hide (OP.out.below bb)
 replace TT:=hide (TT.out.below bb)
 replace TU:=hide (TU.out.below bb)
 replace OQ:=hide (OQ.out.below bb)
 replace OX:=hide (OX.out.below bb)
 clear bb SQ
 replace OY:=OI.ri OY (by omega)
 obtain ⟨aY, cY, rfl⟩:=OY.form
 replace OY:=hide OY
 go_upto_region 12 with fail
 obtain ⟨w17, hw17⟩ : ∃ y, w16.alloc (.cells #[.int .i64 yv,.string ys,.slice aY (yl).length cY] 53) = y:=⟨_, rfl⟩
 have bb : Below w16.heap.size w16 w17:=hw17 ▸ qalloc _ _
 have LY : Loc w17 w16.heap.size #[.int .i64 yv,.string ys,.slice aY (yl).length cY]:=hw17 ▸ loc_at w16 _ _ rfl
 have zw17 : w16.heap.size + 1 ≤ w17.heap.size:=by rw [← hw17]; simp
 rw [hw17]
 clear hw17
 have Bw17:=bu Bw16 bb
 have sw17:=bb.size
 replace LA:=LA.up bb
 replace LB:=LB.up bb
 replace LJ:=LJ.up bb
 replace LK:=LK.up bb
 replace LC:=LC.up bb
 replace LP:=LP.up bb
 replace LD:=LD.up bb
 replace LQ:=LQ.up bb
 replace LX:=LX.up bb
 clear Bw16
 replace OA:=hide (OA.out.below bb)
 replace OB:=hide (OB.out.below bb)
 replace OJ:=hide (OJ.out.below bb)
 replace OK:=hide (OK.out.below bb)
 replace TP:=hide (TP.out.below bb)
 replace OP:=hide (OP.out.below bb)
 replace TT:=hide (TT.out.below bb)
 replace TU:=hide (TU.out.below bb)
 replace OQ:=hide (OQ.out.below bb)
 replace OX:=hide (OX.out.below bb)
 replace OY:=hide (OY.out.below bb)
 clear bb
 go_wp2_with fail
 refine (D4.out _ Bw17).mono ?_
 rintro _ w18 ⟨tl, ls, view, name, rfl, hll, SMl, hnm, TL, bb⟩
 have Bw18:=bu Bw17 bb
 have sw18:=bb.size
 replace LA:=LA.up bb
 replace LB:=LB.up bb
 replace LJ:=LJ.up bb
 replace LK:=LK.up bb
 replace LC:=LC.up bb
 replace LP:=LP.up bb
 replace LD:=LD.up bb
 replace LQ:=LQ.up bb
 replace LX:=LX.up bb
 replace LY:=LY.up bb
 clear Bw17
 replace OA:=hide (OA.out.below bb)
 replace OB:=hide (OB.out.below bb)
 replace OJ:=hide (OJ.out.below bb)
 replace OK:=hide (OK.out.below bb)
 replace TP:=hide (TP.out.below bb)
 replace OP:=hide (OP.out.below bb)
 replace TT:=hide (TT.out.below bb)
 replace TU:=hide (TU.out.below bb)
 replace OQ:=hide (OQ.out.below bb)
 replace OX:=hide (OX.out.below bb)
 replace OY:=hide (OY.out.below bb)
 clear bb D4
 replace TL:=TL.rpt (fun q hq => by have:=SMl.out q hq; omega)
 obtain ⟨aL, cL, rfl⟩:=TL.form
 replace TL:=hide TL
 have IG:=hide fun w' (h : RPt w' (.slice aL (ls).length cL) ls) => implTableGet (.slice aL (ls).length cL) ls view name w' (by omega) (by omega) (fun p hp => by have:=SMl.out p hp; omega) h
 have SG:=hide fun w' (h : RPt w' (.slice aL (ls).length cL) ls) => specTableGet (.slice aL (ls).length cL) ls view name w' (by omega) h
 have hgl:=(smp_get SMl.out view name).1
 generalize getP ls view name = gl at *
 go_wp2_with fail
 refine (D5.out _ Bw18).mono ?_
 rintro _ w19 ⟨tm, ms, fro, rfl, hml, SMm, TM, bb⟩
 have Bw19:=bu Bw18 bb
 have sw19:=bb.size
 replace LA:=LA.up bb
 replace LB:=LB.up bb
 replace LJ:=LJ.up bb
 replace LK:=LK.up bb
 replace LC:=LC.up bb
 replace LP:=LP.up bb
 replace LD:=LD.up bb
 replace LQ:=LQ.up bb
 replace LX:=LX.up bb
 replace LY:=LY.up bb
 clear Bw18
 replace OA:=hide (OA.out.below bb)
 replace OB:=hide (OB.out.below bb)
 replace OJ:=hide (OJ.out.below bb)
 replace OK:=hide (OK.out.below bb)
 replace TP:=hide (TP.out.below bb)
 replace OP:=hide (OP.out.below bb)
 replace TT:=hide (TT.out.below bb)
 replace TU:=hide (TU.out.below bb)
 replace OQ:=hide (OQ.out.below bb)
 replace OX:=hide (OX.out.below bb)
 replace OY:=hide (OY.out.below bb)
 replace TL:=hide (TL.out.below bb)
 clear bb D5
 replace TM:=TM.rpt (fun q hq => by have:=SMm.out q hq; omega)
 obtain ⟨aM, cM, rfl⟩:=TM.form
 replace TM:=hide TM
 have ID:=hide fun w' (h : RPt w' (.slice aM (ms).length cM) ms) => implTableDrop (.slice aM (ms).length cM) ms fro w' (by omega) (fun p hp => by have:=SMm.out p hp; omega) h
 have SD:=hide fun w' (h : RPt w' (.slice aM (ms).length cM) ms) => specTableDrop (.slice aM (ms).length cM) ms fro w' (by omega) h
 have S3:=hide (smp_drop SMm.out fro)
 have hdl : (dropP ms fro).length ≤ 5:=Nat.le_trans (List.length_filter_le _ _) hml
 generalize dropP ms fro = ds at *
 go_wp2_with fail
 refine (D6.out _ Bw19).mono ?_
 rintro _ w20 ⟨ne, fe, tov, os, rfl, hol, SMo, TO, bb⟩
 have Bw20:=bu Bw19 bb
 have sw20:=bb.size
 replace LA:=LA.up bb
 replace LB:=LB.up bb
 replace LJ:=LJ.up bb
 replace LK:=LK.up bb
 replace LC:=LC.up bb
 replace LP:=LP.up bb
 replace LD:=LD.up bb
 replace LQ:=LQ.up bb
 replace LX:=LX.up bb
 replace LY:=LY.up bb
 clear Bw19
 replace OA:=hide (OA.out.below bb)
 replace OB:=hide (OB.out.below bb)
 replace OJ:=hide (OJ.out.below bb)
 replace OK:=hide (OK.out.below bb)
 replace TP:=hide (TP.out.below bb)
 replace OP:=hide (OP.out.below bb)
 replace TT:=hide (TT.out.below bb)
 replace TU:=hide (TU.out.below bb)
 replace OQ:=hide (OQ.out.below bb)
 replace OX:=hide (OX.out.below bb)
 replace OY:=hide (OY.out.below bb)
 replace TL:=hide (TL.out.below bb)
 replace TM:=hide (TM.out.below bb)
 clear bb D6
 replace TO:=TO.rpt (fun q hq => by have:=SMo.out q hq; omega)
 obtain ⟨aO, cO, rfl⟩:=TO.form
 replace TO:=hide TO
 have IO:=hide fun w' (h : RPt w' (.slice aO (os).length cO) os) (hE : Env w') => implTableOk ne fe (.slice aO (os).length cO) os w' (by omega) (fun p hp => by have:=SMo.out p hp; omega) hE h
 have SO:=hide fun w' (h : RPt w' (.slice aO (os).length cO) os) => specTableOk ne fe (.slice aO (os).length cO) os w' (by omega) (fun p hp => by have:=SMo.out p hp; omega) h
 generalize tokB ne fe os = bo at IO SO
 go_upto_region 15 with fail
 obtain ⟨w21, hw21⟩ : ∃ y, w20.alloc (.cells #[.int .i64 ne,.int .i64 fe] 33) = y:=⟨_, rfl⟩
 have bb : Below w20.heap.size w20 w21:=hw21 ▸ qalloc _ _
 have LE : Loc w21 w20.heap.size #[.int .i64 ne,.int .i64 fe]:=hw21 ▸ loc_at w20 _ _ rfl
 have zw21 : w20.heap.size + 1 ≤ w21.heap.size:=by rw [← hw21]; simp
 rw [hw21]
 clear hw21
 have Bw21:=bu Bw20 bb
 have sw21:=bb.size
 replace LA:=LA.up bb
 replace LB:=LB.up bb
 replace LJ:=LJ.up bb
 replace LK:=LK.up bb
 replace LC:=LC.up bb
 replace LP:=LP.up bb
 replace LD:=LD.up bb
 replace LQ:=LQ.up bb
 replace LX:=LX.up bb
 replace LY:=LY.up bb
 clear Bw20
 replace OA:=hide (OA.out.below bb)
 replace OB:=hide (OB.out.below bb)
 replace OJ:=hide (OJ.out.below bb)
 replace OK:=hide (OK.out.below bb)
 replace TP:=hide (TP.out.below bb)
 replace OP:=hide (OP.out.below bb)
 replace TT:=hide (TT.out.below bb)
 replace TU:=hide (TU.out.below bb)
 replace OQ:=hide (OQ.out.below bb)
 replace OX:=hide (OX.out.below bb)
 replace OY:=hide (OY.out.below bb)
 replace TL:=hide (TL.out.below bb)
 replace TM:=hide (TM.out.below bb)
 replace TO:=hide (TO.out.below bb)
 clear bb
 go_wp2_with fail
 refine (D7.out _ Bw21).mono ?_
 rintro _ w22 ⟨nr, fr, vr, sr, ur, xr, rfl, hvr, hsr, hlr, hwr, OR, bb⟩
 have Bw22:=bu Bw21 bb
 have sw22:=bb.size
 replace LA:=LA.up bb
 replace LB:=LB.up bb
 replace LJ:=LJ.up bb
 replace LK:=LK.up bb
 replace LC:=LC.up bb
 replace LP:=LP.up bb
 replace LD:=LD.up bb
 replace LQ:=LQ.up bb
 replace LX:=LX.up bb
 replace LY:=LY.up bb
 replace LE:=LE.up bb
 clear Bw21
 replace OA:=hide (OA.out.below bb)
 replace OB:=hide (OB.out.below bb)
 replace OJ:=hide (OJ.out.below bb)
 replace OK:=hide (OK.out.below bb)
 replace TP:=hide (TP.out.below bb)
 replace OP:=hide (OP.out.below bb)
 replace TT:=hide (TT.out.below bb)
 replace TU:=hide (TU.out.below bb)
 replace OQ:=hide (OQ.out.below bb)
 replace OX:=hide (OX.out.below bb)
 replace OY:=hide (OY.out.below bb)
 replace TL:=hide (TL.out.below bb)
 replace TM:=hide (TM.out.below bb)
 replace TO:=hide (TO.out.below bb)
 clear bb D7
 replace OR:=OI.ri OR (by omega)
 obtain ⟨aR, cR, rfl⟩:=OR.form
 replace OR:=hide OR
 have IP:=hide fun w' (h : RI w' (.slice aR (xr).length cR) xr) (hE : Env w') => implPartOk nr fr vr sr (.slice aR (xr).length cR) xr w' (by omega) hE h
 have SP:=hide fun w' (h : RI w' (.slice aR (xr).length cR) xr) => specPartOk nr fr vr sr (.slice aR (xr).length cR) xr w' (by omega) h
 generalize pokB nr fr vr sr xr = bp at IP SP
 go_upto_region 16 with fail
 obtain ⟨w23, hw23⟩ : ∃ y, (w22.alloc (.cells #[.int .i64 nr,.int .i64 fr] 33)).alloc (.cells #[.int .i64 vr,.string sr,.slice aR (xr).length cR] 36) = y:=⟨_, rfl⟩
 have bb : Below w22.heap.size w22 w23:=hw23 ▸ qalloc2 _ _ _
 have LF : Loc w23 w22.heap.size #[.int .i64 nr,.int .i64 fr]:=hw23 ▸ (loc_at w22 _ _ rfl).alloc _
 have LR : Loc w23 (w22.heap.size + 1) #[.int .i64 vr,.string sr,.slice aR (xr).length cR]:=hw23 ▸ loc_at (w22.alloc _) _ _ (by simp)
 have zw23 : w22.heap.size + 1 + 1 ≤ w23.heap.size:=by rw [← hw23]; simp
 rw [hw23]
 clear hw23
 have Bw23:=bu Bw22 bb
 have sw23:=bb.size
 replace LA:=LA.up bb
 replace LB:=LB.up bb
 replace LJ:=LJ.up bb
 replace LK:=LK.up bb
 replace LC:=LC.up bb
 replace LP:=LP.up bb
 replace LD:=LD.up bb
 replace LQ:=LQ.up bb
 replace LX:=LX.up bb
 replace LY:=LY.up bb
 replace LE:=LE.up bb
 clear Bw22
 replace OA:=hide (OA.out.below bb)
 replace OB:=hide (OB.out.below bb)
 replace OJ:=hide (OJ.out.below bb)
 replace OK:=hide (OK.out.below bb)
 replace TP:=hide (TP.out.below bb)
 replace OP:=hide (OP.out.below bb)
 replace TT:=hide (TT.out.below bb)
 replace TU:=hide (TU.out.below bb)
 replace OQ:=hide (OQ.out.below bb)
 replace OX:=hide (OX.out.below bb)
 replace OY:=hide (OY.out.below bb)
 replace TL:=hide (TL.out.below bb)
 replace TM:=hide (TM.out.below bb)
 replace TO:=hide (TO.out.below bb)
 replace OR:=hide (OR.out.below bb)
 clear bb
 as_aux_lemma =>
 have QS:=hide fun w' (h1 : RI w' (.slice aX (yl).length cX) yl) (h2 : RI w' (.slice aY (yl).length cY) yl) => implQcSame yv yv ys ys (.slice aX (yl).length cX) (.slice aY (yl).length cY) yl yl w' h1 h2
 rw [alike_me] at QS
 have eok : (ok != ok) = false:=by simp
 have eput : (put != put) = false:=by simp
 have eiz : (iz != iz) = false:=by simp
 have ebo : (bo != bo) = false:=by simp
 have ebp : (bp != bp) = false:=by simp
 have K:=kw (ka (kc3 LJ 0 1 2) (ka (kc3 LK 0 1 2) (ka (kc3 LX 0 1 2) (ka (kc3 LY 0 1 2) (ka (kc2 LE 0 1) (ka (kc2 LF 0 1) (kc3 LR 0 1 2)))))))
 refine wra K (fun bA hHeld => ?_)
 refine tx 0 111 ?_
 refine tx 1 112 ?_
 refine tx 2 113 ?_
 refine tx 3 114 ?_
 refine tx 4 115 ?_
 refine tx 5 116 ?_
 refine rd 6 rfl (fun KK hKK => ?_)
 go_simp
 have hgo:=bA
 refine (samePart_yes jv js (.slice aJ (jl).length cJ) (.slice aK (jl).length cK) jl _ (OJ.out.below hgo) (OK.out.below hgo)).mono ?_
 rintro e wz16_1 ⟨rfl, bb⟩
 have bz1 : Below w23.heap.size w23 wz16_1:=bu bA bb
 clear bA hgo bb hHeld
 refine hKK.out _ _ (K.out _ bz1) (fun hHeld => ?_)
 clear hKK KK
 refine tx 7 118 ?_
 refine tx 8 119 ?_
 refine tx 9 120 ?_
 refine tx 10 121 ?_
 refine tx 11 122 ?_
 refine tx 12 123 ?_
 refine tx 13 124 ?_
 refine tx 14 125 ?_
 refine tx 15 126 ?_
 refine tx 16 127 ?_
 refine rd 17 rfl (fun KK hKK => ?_)
 go_simp
 have hgo:=bz1
 refine (sameTable_yes (.slice aTT (rt).length cTT) (.slice aTU (rt).length cTU) rt _ (by have := HL3.out; omega) (TT.out.below hgo) (TU.out.below hgo)).mono ?_
 rintro e wz16_2 ⟨rfl, bb⟩
 have bz2 : Below w23.heap.size w23 wz16_2:=bu bz1 bb
 clear bz1 hgo bb hHeld
 refine hKK.out _ _ (K.out _ bz2) (fun hHeld => ?_)
 clear hKK KK
 refine tx 18 129 ?_
 refine tx 19 130 ?_
 refine tx 20 131 ?_
 refine tx 21 132 ?_
 refine tx 22 133 ?_
 refine tx 23 134 ?_
 refine tx 24 135 ?_
 refine tx 25 136 ?_
 refine tx 26 137 ?_
 refine tx 27 138 ?_
 refine rd 28 rfl (fun KK hKK => ?_)
 go_simp
 have hgo:=bz2
 refine (QS.out _ (OX.out.below hgo) (OY.out.below hgo)).mono ?_
 rintro e wz16_3 ⟨rfl, bb⟩
 have bz3 : Below w23.heap.size w23 wz16_3:=bu bz2 bb
 clear bz2 hgo bb hHeld
 refine hKK.out _ _ (K.out _ bz3) (fun hHeld => ?_)
 clear hKK KK
 refine tx 29 140 ?_
 refine tx 30 141 ?_
 refine tx 31 142 ?_
 refine tx 32 143 ?_
 refine tx 33 144 ?_
 refine tx 34 145 ?_
 refine tx 36 147 ?_
 refine tx 37 148 ?_
 refine tx 38 149 ?_
 refine rd 35 rfl (fun KK hKK => ?_)
 go_simp
 have hgo:=bz3
 refine (IG.out _ (TL.out.below hgo)).mono ?_
 rintro e wz16_4 ⟨ug, rfl, OG, bb⟩
 have bz4 : Below w23.heap.size w23 wz16_4:=bu bz3 bb
 replace OG:=OI.ri OG (by omega)
 obtain ⟨aG, cG, rfl⟩:=OG.form
 replace OG:=hide OG
 clear bz3 hgo bb hHeld
 refine hKK.out _ _ (K.out _ bz4) (fun hHeld => ?_)
 clear hKK KK
 refine rd 39 rfl (fun KK hKK => ?_)
 go_simp
 have hgo:=bz4
 refine (SG.out _ (TL.out.below hgo)).mono ?_
 rintro e wz16_5 ⟨ug2, rfl, OG2, bb⟩
 have bz5 : Below w23.heap.size w23 wz16_5:=bu bz4 bb
 replace OG:=hide (OG.out.below bb)
 replace OG2:=OI.ri OG2 (by omega)
 obtain ⟨aG2, cG2, rfl⟩:=OG2.form
 replace OG2:=hide OG2
 clear bz4 hgo bb hHeld
 refine hKK.out _ _ (K.out _ bz5) (fun hHeld => ?_)
 clear hKK KK
 refine rd 40 rfl (fun KK hKK => ?_)
 go_simp
 have hgo:=bz5
 refine (samePart_yes gl.1 gl.2.1 (.slice aG gl.2.2.length cG) (.slice aG2 gl.2.2.length cG2) gl.2.2 _ OG.out OG2.out).mono ?_
 rintro e wz16_6 ⟨rfl, bb⟩
 have bz6 : Below w23.heap.size w23 wz16_6:=bu bz5 bb
 clear OG OG2 bz5 hgo bb hHeld
 refine hKK.out _ _ (K.out _ bz6) (fun hHeld => ?_)
 clear hKK KK
 refine tx 41 152 ?_
 refine tx 42 153 ?_
 refine tx 43 154 ?_
 refine tx 44 155 ?_
 refine tx 45 156 ?_
 refine tx 47 158 ?_
 refine tx 48 159 ?_
 refine rd 46 rfl (fun KK hKK => ?_)
 go_simp
 have hgo:=bz6
 refine (ID.out _ (TM.out.below hgo)).mono ?_
 rintro e wz16_7 ⟨ud, rfl, TD, bb⟩
 have bz7 : Below w23.heap.size w23 wz16_7:=bu bz6 bb
 replace TD:=TD.rpt (fun q hq => by have:=S3.out q hq; omega)
 obtain ⟨aD, cD, rfl⟩:=TD.form
 replace TD:=hide TD
 clear bz6 hgo bb hHeld
 refine hKK.out _ _ (K.out _ bz7) (fun hHeld => ?_)
 clear hKK KK
 refine rd 49 rfl (fun KK hKK => ?_)
 go_simp
 have hgo:=bz7
 refine (SD.out _ (TM.out.below hgo)).mono ?_
 rintro e wz16_8 ⟨ud2, rfl, TD2, bb⟩
 have bz8 : Below w23.heap.size w23 wz16_8:=bu bz7 bb
 replace TD:=hide (TD.out.below bb)
 replace TD2:=TD2.rpt (fun q hq => by have:=S3.out q hq; omega)
 obtain ⟨aD2, cD2, rfl⟩:=TD2.form
 replace TD2:=hide TD2
 clear bz7 hgo bb hHeld
 refine hKK.out _ _ (K.out _ bz8) (fun hHeld => ?_)
 clear hKK KK
 refine rd 50 rfl (fun KK hKK => ?_)
 go_simp
 have hgo:=bz8
 refine (sameTable_yes (.slice aD ds.length cD) (.slice aD2 ds.length cD2) ds _ (by omega) TD.out TD2.out).mono ?_
 rintro e wz16_9 ⟨rfl, bb⟩
 have bz9 : Below w23.heap.size w23 wz16_9:=bu bz8 bb
 clear TD TD2 bz8 hgo bb hHeld
 refine hKK.out _ _ (K.out _ bz9) (fun hHeld => ?_)
 clear hKK KK
 refine tx 51 162 ?_
 refine tx 52 163 ?_
 refine tx 53 164 ?_
 refine tx 54 165 ?_
 refine tx 55 166 ?_
 refine tx 57 168 ?_
 refine tx 58 169 ?_
 refine rd 56 rfl (fun KK hKK => ?_)
 go_simp
 have hgo:=bz9
 refine (IO.out _ (TO.out.below hgo) (HE.out _ (bu Bw23 hgo))).mono ?_
 rintro e wz16_10 ⟨rfl, bb⟩
 have bz10 : Below w23.heap.size w23 wz16_10:=bu bz9 bb
 clear bz9 hgo bb hHeld
 refine hKK.out _ _ (K.out _ bz10) (fun hHeld => ?_)
 clear hKK KK
 refine rd 59 rfl (fun KK hKK => ?_)
 go_simp
 have hgo:=bz10
 refine (SO.out _ (TO.out.below hgo)).mono ?_
 rintro e wz16_11 ⟨rfl, bb⟩
 have bz11 : Below w23.heap.size w23 wz16_11:=bu bz10 bb
 clear bz10 hgo bb hHeld
 refine hKK.out _ _ (K.out _ bz11) (fun hHeld => ?_)
 clear hKK KK
 refine tx 60 171 ?_
 refine tx 61 172 ?_
 refine tx 62 173 ?_
 refine tx 63 174 ?_
 refine tx 64 175 ?_
 refine tx 66 177 ?_
 refine tx 67 178 ?_
 refine rd 65 rfl (fun KK hKK => ?_)
 go_simp
 have hgo:=bz11
 refine (IP.out _ (OR.out.below hgo) (HE.out _ (bu Bw23 hgo))).mono ?_
 rintro e wz16_12 ⟨rfl, bb⟩
 have bz12 : Below w23.heap.size w23 wz16_12:=bu bz11 bb
 clear bz11 hgo bb hHeld
 refine hKK.out _ _ (K.out _ bz12) (fun hHeld => ?_)
 clear hKK KK
 refine rd 68 rfl (fun KK hKK => ?_)
 go_simp
 have hgo:=bz12
 refine (SP.out _ (OR.out.below hgo)).mono ?_
 rintro e wz16_13 ⟨rfl, bb⟩
 have bz13 : Below w23.heap.size w23 wz16_13:=bu bz12 bb
 clear bz12 hgo bb hHeld
 refine hKK.out _ _ (K.out _ bz13) (fun hHeld => ?_)
 clear hKK KK
 refine tx 69 180 ?_
 refine tx 70 181 ?_
 clear hHeld
 refine wdn ?_
 have bb:=bz13
 have Bwz16_13:=bu Bw23 bb
 have swz16_13:=bb.size
 replace LA:=LA.up bb
 replace LB:=LB.up bb
 replace LJ:=LJ.up bb
 replace LK:=LK.up bb
 replace LC:=LC.up bb
 replace LP:=LP.up bb
 replace LD:=LD.up bb
 replace LQ:=LQ.up bb
 replace LX:=LX.up bb
 replace LY:=LY.up bb
 replace LE:=LE.up bb
 replace LF:=LF.up bb
 replace LR:=LR.up bb
 clear Bw23
 replace OA:=hide (OA.out.below bb)
 replace OB:=hide (OB.out.below bb)
 replace OJ:=hide (OJ.out.below bb)
 replace OK:=hide (OK.out.below bb)
 replace TP:=hide (TP.out.below bb)
 replace OP:=hide (OP.out.below bb)
 replace TT:=hide (TT.out.below bb)
 replace TU:=hide (TU.out.below bb)
 replace OQ:=hide (OQ.out.below bb)
 replace OX:=hide (OX.out.below bb)
 replace OY:=hide (OY.out.below bb)
 replace TL:=hide (TL.out.below bb)
 replace TM:=hide (TM.out.below bb)
 replace TO:=hide (TO.out.below bb)
 replace OR:=hide (OR.out.below bb)
 clear bb bz13 K QS IG SG ID SD IO SO IP SP OK TU OY OQ TL TM TO OR LK LY LQ LE LF LR
 as_aux_lemma =>
 cases iz
 ·cases ok
  ·as_aux_lemma =>
    cases put
    ·have hrt:=hide (AF.out.2 rfl)
     go_wp2_with fail
     refine (sameTable_yes (.slice aTT (rt).length cTT) (.slice aT (ps).length cT) ps _ (by omega) (by rw [← hrt.out]; exact TT.out) TP.out).mono ?_
     rintro _ w24 ⟨rfl, bb⟩
     have Bw24:=bu Bwz16_13 bb
     have sw24:=bb.size
     replace LA:=LA.up bb
     replace LB:=LB.up bb
     replace LJ:=LJ.up bb
     replace LC:=LC.up bb
     replace LP:=LP.up bb
     replace LD:=LD.up bb
     replace LX:=LX.up bb
     clear Bwz16_13
     replace OA:=hide (OA.out.below bb)
     replace OB:=hide (OB.out.below bb)
     replace OJ:=hide (OJ.out.below bb)
     replace TP:=hide (TP.out.below bb)
     replace OP:=hide (OP.out.below bb)
     replace TT:=hide (TT.out.below bb)
     replace OX:=hide (OX.out.below bb)
     clear bb
     go_wp2
     go_ret
     exact ⟨rfl, Bw24⟩
    obtain ⟨htk, hcm⟩:=AF.out.1 rfl
    have hgg:=hide (smp_get S2.out vp sp)
    have IG2:=hide fun w' (h : RPt w' (.slice aTT (rt).length cTT) rt) => implTableGet (.slice aTT (rt).length cTT) rt vp sp w' (by have:=HL3.out; omega) (by omega) (fun p hp => by have:=S2.out p hp; omega) h
    have HK:=hide htk
    have HC:=hide hcm
    clear htk hcm AF
    generalize getP rt vp sp = gg at *
    obtain ⟨cLP0,cLP1,cLP2⟩:=cc3 LP 0 1 2
    go_wp2_with fail
    refine (IG2.out _ TT.out).mono ?_
    rintro _ w24 ⟨ug3, rfl, OG3, bb⟩
    clear cLP0 cLP1 cLP2
    have Bw24:=bu Bwz16_13 bb
    have sw24:=bb.size
    replace LA:=LA.up bb
    replace LB:=LB.up bb
    replace LJ:=LJ.up bb
    replace LC:=LC.up bb
    replace LP:=LP.up bb
    replace LD:=LD.up bb
    replace LX:=LX.up bb
    clear Bwz16_13
    replace OA:=hide (OA.out.below bb)
    replace OB:=hide (OB.out.below bb)
    replace OJ:=hide (OJ.out.below bb)
    replace TP:=hide (TP.out.below bb)
    replace OP:=hide (OP.out.below bb)
    replace TT:=hide (TT.out.below bb)
    replace OX:=hide (OX.out.below bb)
    clear bb IG2
    replace OG3:=OI.ri OG3 (by have:=hgg.out; omega)
    obtain ⟨aG3, cG3, rfl⟩:=OG3.form
    replace OG3:=hide OG3
    go_upto_region 27 with fail
    obtain ⟨w25, hw25⟩ : ∃ y, w24.alloc (.cells #[.int .i64 gg.1,.string gg.2.1,.slice aG3 (gg.2.2).length cG3] 36) = y:=⟨_, rfl⟩
    have bb : Below w24.heap.size w24 w25:=hw25 ▸ qalloc _ _
    have LG : Loc w25 w24.heap.size #[.int .i64 gg.1,.string gg.2.1,.slice aG3 (gg.2.2).length cG3]:=hw25 ▸ loc_at w24 _ _ rfl
    have zw25 : w24.heap.size + 1 ≤ w25.heap.size:=by rw [← hw25]; simp
    rw [hw25]
    clear hw25
    have Bw25:=bu Bw24 bb
    have sw25:=bb.size
    replace LA:=LA.up bb
    replace LB:=LB.up bb
    replace LJ:=LJ.up bb
    replace LC:=LC.up bb
    replace LP:=LP.up bb
    replace LD:=LD.up bb
    replace LX:=LX.up bb
    clear Bw24
    replace OA:=hide (OA.out.below bb)
    replace OB:=hide (OB.out.below bb)
    replace OJ:=hide (OJ.out.below bb)
    replace TP:=hide (TP.out.below bb)
    replace OP:=hide (OP.out.below bb)
    replace TT:=hide (TT.out.below bb)
    replace OX:=hide (OX.out.below bb)
    replace OG3:=hide (OG3.out.below bb)
    clear bb
    have TK:=hide fun w' (hb : Below w25.heap.size w25 w') => implTableOk n f (.slice aTT (rt).length cTT) rt w' (by have:=HL3.out; omega) (fun p hp => by have:=S2.out p hp; omega) (HE.out w' (bu Bw25 hb)) (TT.out.below hb)
    rw [HK.out] at TK
    have CM:=hide fun w' (hb : Below w25.heap.size w25 w') => implCommon (.slice aP (xp).length cP) (.slice aG3 (gg.2.2).length cG3) xp gg.2.2 w' (OP.out.below hb) (OG3.out.below hb) hwp.out hgg.out.2
    rw [HC.out] at CM
    have eL : ((xp.length : Int) == (xp.length : Int)) = true:=by simp
    have eN : (xp.length == xp.length) = true:=by simp
    have K:=kw (ka (kc2 LC 0 1) (ka (kc3 LP 0 1 2) (kc3 LG 0 1 2)))
    refine wra K (fun bA hHeld => ?_)
    refine tx 0 225 ?_
    refine tx 1 226 ?_
    refine rd 2 rfl (fun KK hKK => ?_)
    go_simp
    have hgo:=bA
    refine (TK.out _ hgo).mono ?_
    rintro e wz27_1 ⟨rfl, bb⟩
    have bz1 : Below w25.heap.size w25 wz27_1:=bu bA bb
    clear bA hgo bb hHeld
    refine hKK.out _ _ (K.out _ bz1) (fun hHeld => ?_)
    clear hKK KK
    refine tx 3 228 ?_
    refine tx 4 229 ?_
    refine tx 6 231 ?_
    refine tx 9 234 ?_
    refine tx 5 230 ?_
    refine tx 7 232 ?_
    refine tx 10 235 ?_
    refine tx 11 236 ?_
    refine rd 8 rfl (fun KK hKK => ?_)
    go_simp
    have hgo:=bz1
    refine (CM.out _ hgo).mono ?_
    rintro e wz27_2 ⟨rfl, bb⟩
    have bz2 : Below w25.heap.size w25 wz27_2:=bu bz1 bb
    clear bz1 hgo bb hHeld
    refine hKK.out _ _ (K.out _ bz2) (fun hHeld => ?_)
    clear hKK KK
    refine tx 12 237 ?_
    refine tx 13 238 ?_
    refine tx 14 2 ?_
    clear hHeld
    refine wdn ?_
    have bb:=bz2
    have Bwz27_2:=bu Bw25 bb
    have swz27_2:=bb.size
    replace LA:=LA.up bb
    replace LB:=LB.up bb
    replace LJ:=LJ.up bb
    replace LC:=LC.up bb
    replace LP:=LP.up bb
    replace LD:=LD.up bb
    replace LX:=LX.up bb
    replace LG:=LG.up bb
    clear Bw25
    replace OA:=hide (OA.out.below bb)
    replace OB:=hide (OB.out.below bb)
    replace OJ:=hide (OJ.out.below bb)
    replace TP:=hide (TP.out.below bb)
    replace OP:=hide (OP.out.below bb)
    replace TT:=hide (TT.out.below bb)
    replace OX:=hide (OX.out.below bb)
    replace OG3:=hide (OG3.out.below bb)
    clear bb bz2 K
    go_wp2
    go_ret
    exact ⟨by simp, Bwz27_2⟩
  have SA:=hide fun w' (h : RI w' (.slice aA (xa).length cA) xa) => implSetOk 7 (.slice aA (xa).length cA) xa w' h
  have SB:=hide fun w' (h : RI w' (.slice aB (xb).length cB) xb) => implSetOk 7 (.slice aB (xb).length cB) xb w' h
  generalize decide (OkL 7 xa) = ba at SA
  generalize decide (OkL 7 xb) = bb' at SB
  obtain ⟨cLA0,cLA1,cLA2⟩:=cc3 LA 0 1 2
  obtain ⟨cLB0,cLB1,cLB2⟩:=cc3 LB 0 1 2
  go_wp2_with fail
  refine (SA.out _ OA.out).mono ?_
  rintro _ w24 ⟨rfl, bb⟩
  clear cLA0 cLA1 cLA2 cLB0 cLB1 cLB2
  have Bw24:=bu Bwz16_13 bb
  have sw24:=bb.size
  replace LA:=LA.up bb
  replace LB:=LB.up bb
  replace LJ:=LJ.up bb
  replace LC:=LC.up bb
  replace LP:=LP.up bb
  replace LD:=LD.up bb
  replace LX:=LX.up bb
  clear Bwz16_13
  replace OA:=hide (OA.out.below bb)
  replace OB:=hide (OB.out.below bb)
  replace OJ:=hide (OJ.out.below bb)
  replace TP:=hide (TP.out.below bb)
  replace OP:=hide (OP.out.below bb)
  replace TT:=hide (TT.out.below bb)
  replace OX:=hide (OX.out.below bb)
  clear bb SA
  cases ba
  ·as_aux_lemma =>
    cases put
    ·have hrt:=hide (AF.out.2 rfl)
     go_wp2_with fail
     refine (sameTable_yes (.slice aTT (rt).length cTT) (.slice aT (ps).length cT) ps _ (by omega) (by rw [← hrt.out]; exact TT.out) TP.out).mono ?_
     rintro _ w25 ⟨rfl, bb⟩
     have Bw25:=bu Bw24 bb
     have sw25:=bb.size
     replace LA:=LA.up bb
     replace LB:=LB.up bb
     replace LJ:=LJ.up bb
     replace LC:=LC.up bb
     replace LP:=LP.up bb
     replace LD:=LD.up bb
     replace LX:=LX.up bb
     clear Bw24
     replace OA:=hide (OA.out.below bb)
     replace OB:=hide (OB.out.below bb)
     replace OJ:=hide (OJ.out.below bb)
     replace TP:=hide (TP.out.below bb)
     replace OP:=hide (OP.out.below bb)
     replace TT:=hide (TT.out.below bb)
     replace OX:=hide (OX.out.below bb)
     clear bb
     go_wp2
     go_ret
     exact ⟨rfl, Bw25⟩
    obtain ⟨htk, hcm⟩:=AF.out.1 rfl
    have hgg:=hide (smp_get S2.out vp sp)
    have IG2:=hide fun w' (h : RPt w' (.slice aTT (rt).length cTT) rt) => implTableGet (.slice aTT (rt).length cTT) rt vp sp w' (by have:=HL3.out; omega) (by omega) (fun p hp => by have:=S2.out p hp; omega) h
    have HK:=hide htk
    have HC:=hide hcm
    clear htk hcm AF
    generalize getP rt vp sp = gg at *
    obtain ⟨cLP0,cLP1,cLP2⟩:=cc3 LP 0 1 2
    go_wp2_with fail
    refine (IG2.out _ TT.out).mono ?_
    rintro _ w25 ⟨ug3, rfl, OG3, bb⟩
    clear cLP0 cLP1 cLP2
    have Bw25:=bu Bw24 bb
    have sw25:=bb.size
    replace LA:=LA.up bb
    replace LB:=LB.up bb
    replace LJ:=LJ.up bb
    replace LC:=LC.up bb
    replace LP:=LP.up bb
    replace LD:=LD.up bb
    replace LX:=LX.up bb
    clear Bw24
    replace OA:=hide (OA.out.below bb)
    replace OB:=hide (OB.out.below bb)
    replace OJ:=hide (OJ.out.below bb)
    replace TP:=hide (TP.out.below bb)
    replace OP:=hide (OP.out.below bb)
    replace TT:=hide (TT.out.below bb)
    replace OX:=hide (OX.out.below bb)
    clear bb IG2
    replace OG3:=OI.ri OG3 (by have:=hgg.out; omega)
    obtain ⟨aG3, cG3, rfl⟩:=OG3.form
    replace OG3:=hide OG3
    go_upto_region 27 with fail
    obtain ⟨w26, hw26⟩ : ∃ y, w25.alloc (.cells #[.int .i64 gg.1,.string gg.2.1,.slice aG3 (gg.2.2).length cG3] 36) = y:=⟨_, rfl⟩
    have bb : Below w25.heap.size w25 w26:=hw26 ▸ qalloc _ _
    have LG : Loc w26 w25.heap.size #[.int .i64 gg.1,.string gg.2.1,.slice aG3 (gg.2.2).length cG3]:=hw26 ▸ loc_at w25 _ _ rfl
    have zw26 : w25.heap.size + 1 ≤ w26.heap.size:=by rw [← hw26]; simp
    rw [hw26]
    clear hw26
    have Bw26:=bu Bw25 bb
    have sw26:=bb.size
    replace LA:=LA.up bb
    replace LB:=LB.up bb
    replace LJ:=LJ.up bb
    replace LC:=LC.up bb
    replace LP:=LP.up bb
    replace LD:=LD.up bb
    replace LX:=LX.up bb
    clear Bw25
    replace OA:=hide (OA.out.below bb)
    replace OB:=hide (OB.out.below bb)
    replace OJ:=hide (OJ.out.below bb)
    replace TP:=hide (TP.out.below bb)
    replace OP:=hide (OP.out.below bb)
    replace TT:=hide (TT.out.below bb)
    replace OX:=hide (OX.out.below bb)
    replace OG3:=hide (OG3.out.below bb)
    clear bb
    have TK:=hide fun w' (hb : Below w26.heap.size w26 w') => implTableOk n f (.slice aTT (rt).length cTT) rt w' (by have:=HL3.out; omega) (fun p hp => by have:=S2.out p hp; omega) (HE.out w' (bu Bw26 hb)) (TT.out.below hb)
    rw [HK.out] at TK
    have CM:=hide fun w' (hb : Below w26.heap.size w26 w') => implCommon (.slice aP (xp).length cP) (.slice aG3 (gg.2.2).length cG3) xp gg.2.2 w' (OP.out.below hb) (OG3.out.below hb) hwp.out hgg.out.2
    rw [HC.out] at CM
    have eL : ((xp.length : Int) == (xp.length : Int)) = true:=by simp
    have eN : (xp.length == xp.length) = true:=by simp
    have K:=kw (ka (kc2 LC 0 1) (ka (kc3 LP 0 1 2) (kc3 LG 0 1 2)))
    refine wra K (fun bA hHeld => ?_)
    refine tx 0 225 ?_
    refine tx 1 226 ?_
    refine rd 2 rfl (fun KK hKK => ?_)
    go_simp
    have hgo:=bA
    refine (TK.out _ hgo).mono ?_
    rintro e wz27_1 ⟨rfl, bb⟩
    have bz1 : Below w26.heap.size w26 wz27_1:=bu bA bb
    clear bA hgo bb hHeld
    refine hKK.out _ _ (K.out _ bz1) (fun hHeld => ?_)
    clear hKK KK
    refine tx 3 228 ?_
    refine tx 4 229 ?_
    refine tx 6 231 ?_
    refine tx 9 234 ?_
    refine tx 5 230 ?_
    refine tx 7 232 ?_
    refine tx 10 235 ?_
    refine tx 11 236 ?_
    refine rd 8 rfl (fun KK hKK => ?_)
    go_simp
    have hgo:=bz1
    refine (CM.out _ hgo).mono ?_
    rintro e wz27_2 ⟨rfl, bb⟩
    have bz2 : Below w26.heap.size w26 wz27_2:=bu bz1 bb
    clear bz1 hgo bb hHeld
    refine hKK.out _ _ (K.out _ bz2) (fun hHeld => ?_)
    clear hKK KK
    refine tx 12 237 ?_
    refine tx 13 238 ?_
    refine tx 14 2 ?_
    clear hHeld
    refine wdn ?_
    have bb:=bz2
    have Bwz27_2:=bu Bw26 bb
    have swz27_2:=bb.size
    replace LA:=LA.up bb
    replace LB:=LB.up bb
    replace LJ:=LJ.up bb
    replace LC:=LC.up bb
    replace LP:=LP.up bb
    replace LD:=LD.up bb
    replace LX:=LX.up bb
    replace LG:=LG.up bb
    clear Bw26
    replace OA:=hide (OA.out.below bb)
    replace OB:=hide (OB.out.below bb)
    replace OJ:=hide (OJ.out.below bb)
    replace TP:=hide (TP.out.below bb)
    replace OP:=hide (OP.out.below bb)
    replace TT:=hide (TT.out.below bb)
    replace OX:=hide (OX.out.below bb)
    replace OG3:=hide (OG3.out.below bb)
    clear bb bz2 K
    go_wp2
    go_ret
    exact ⟨by simp, Bwz27_2⟩
  obtain ⟨cLA0,cLA1,cLA2⟩:=cc3 LA 0 1 2
  obtain ⟨cLB0,cLB1,cLB2⟩:=cc3 LB 0 1 2
  go_wp2_with fail
  refine (SB.out _ OB.out).mono ?_
  rintro _ w25 ⟨rfl, bb⟩
  clear cLA0 cLA1 cLA2 cLB0 cLB1 cLB2
  have Bw25:=bu Bw24 bb
  have sw25:=bb.size
  replace LA:=LA.up bb
  replace LB:=LB.up bb
  replace LJ:=LJ.up bb
  replace LC:=LC.up bb
  replace LP:=LP.up bb
  replace LD:=LD.up bb
  replace LX:=LX.up bb
  clear Bw24
  replace OA:=hide (OA.out.below bb)
  replace OB:=hide (OB.out.below bb)
  replace OJ:=hide (OJ.out.below bb)
  replace TP:=hide (TP.out.below bb)
  replace OP:=hide (OP.out.below bb)
  replace TT:=hide (TT.out.below bb)
  replace OX:=hide (OX.out.below bb)
  clear bb SB
  cases bb'
  ·as_aux_lemma =>
    cases put
    ·have hrt:=hide (AF.out.2 rfl)
     go_wp2_with fail
     refine (sameTable_yes (.slice aTT (rt).length cTT) (.slice aT (ps).length cT) ps _ (by omega) (by rw [← hrt.out]; exact TT.out) TP.out).mono ?_
     rintro _ w26 ⟨rfl, bb⟩
     have Bw26:=bu Bw25 bb
     have sw26:=bb.size
     replace LA:=LA.up bb
     replace LB:=LB.up bb
     replace LJ:=LJ.up bb
     replace LC:=LC.up bb
     replace LP:=LP.up bb
     replace LD:=LD.up bb
     replace LX:=LX.up bb
     clear Bw25
     replace OA:=hide (OA.out.below bb)
     replace OB:=hide (OB.out.below bb)
     replace OJ:=hide (OJ.out.below bb)
     replace TP:=hide (TP.out.below bb)
     replace OP:=hide (OP.out.below bb)
     replace TT:=hide (TT.out.below bb)
     replace OX:=hide (OX.out.below bb)
     clear bb
     go_wp2
     go_ret
     exact ⟨rfl, Bw26⟩
    obtain ⟨htk, hcm⟩:=AF.out.1 rfl
    have hgg:=hide (smp_get S2.out vp sp)
    have IG2:=hide fun w' (h : RPt w' (.slice aTT (rt).length cTT) rt) => implTableGet (.slice aTT (rt).length cTT) rt vp sp w' (by have:=HL3.out; omega) (by omega) (fun p hp => by have:=S2.out p hp; omega) h
    have HK:=hide htk
    have HC:=hide hcm
    clear htk hcm AF
    generalize getP rt vp sp = gg at *
    obtain ⟨cLP0,cLP1,cLP2⟩:=cc3 LP 0 1 2
    go_wp2_with fail
    refine (IG2.out _ TT.out).mono ?_
    rintro _ w26 ⟨ug3, rfl, OG3, bb⟩
    clear cLP0 cLP1 cLP2
    have Bw26:=bu Bw25 bb
    have sw26:=bb.size
    replace LA:=LA.up bb
    replace LB:=LB.up bb
    replace LJ:=LJ.up bb
    replace LC:=LC.up bb
    replace LP:=LP.up bb
    replace LD:=LD.up bb
    replace LX:=LX.up bb
    clear Bw25
    replace OA:=hide (OA.out.below bb)
    replace OB:=hide (OB.out.below bb)
    replace OJ:=hide (OJ.out.below bb)
    replace TP:=hide (TP.out.below bb)
    replace OP:=hide (OP.out.below bb)
    replace TT:=hide (TT.out.below bb)
    replace OX:=hide (OX.out.below bb)
    clear bb IG2
    replace OG3:=OI.ri OG3 (by have:=hgg.out; omega)
    obtain ⟨aG3, cG3, rfl⟩:=OG3.form
    replace OG3:=hide OG3
    go_upto_region 27 with fail
    obtain ⟨w27, hw27⟩ : ∃ y, w26.alloc (.cells #[.int .i64 gg.1,.string gg.2.1,.slice aG3 (gg.2.2).length cG3] 36) = y:=⟨_, rfl⟩
    have bb : Below w26.heap.size w26 w27:=hw27 ▸ qalloc _ _
    have LG : Loc w27 w26.heap.size #[.int .i64 gg.1,.string gg.2.1,.slice aG3 (gg.2.2).length cG3]:=hw27 ▸ loc_at w26 _ _ rfl
    have zw27 : w26.heap.size + 1 ≤ w27.heap.size:=by rw [← hw27]; simp
    rw [hw27]
    clear hw27
    have Bw27:=bu Bw26 bb
    have sw27:=bb.size
    replace LA:=LA.up bb
    replace LB:=LB.up bb
    replace LJ:=LJ.up bb
    replace LC:=LC.up bb
    replace LP:=LP.up bb
    replace LD:=LD.up bb
    replace LX:=LX.up bb
    clear Bw26
    replace OA:=hide (OA.out.below bb)
    replace OB:=hide (OB.out.below bb)
    replace OJ:=hide (OJ.out.below bb)
    replace TP:=hide (TP.out.below bb)
    replace OP:=hide (OP.out.below bb)
    replace TT:=hide (TT.out.below bb)
    replace OX:=hide (OX.out.below bb)
    replace OG3:=hide (OG3.out.below bb)
    clear bb
    have TK:=hide fun w' (hb : Below w27.heap.size w27 w') => implTableOk n f (.slice aTT (rt).length cTT) rt w' (by have:=HL3.out; omega) (fun p hp => by have:=S2.out p hp; omega) (HE.out w' (bu Bw27 hb)) (TT.out.below hb)
    rw [HK.out] at TK
    have CM:=hide fun w' (hb : Below w27.heap.size w27 w') => implCommon (.slice aP (xp).length cP) (.slice aG3 (gg.2.2).length cG3) xp gg.2.2 w' (OP.out.below hb) (OG3.out.below hb) hwp.out hgg.out.2
    rw [HC.out] at CM
    have eL : ((xp.length : Int) == (xp.length : Int)) = true:=by simp
    have eN : (xp.length == xp.length) = true:=by simp
    have K:=kw (ka (kc2 LC 0 1) (ka (kc3 LP 0 1 2) (kc3 LG 0 1 2)))
    refine wra K (fun bA hHeld => ?_)
    refine tx 0 225 ?_
    refine tx 1 226 ?_
    refine rd 2 rfl (fun KK hKK => ?_)
    go_simp
    have hgo:=bA
    refine (TK.out _ hgo).mono ?_
    rintro e wz27_1 ⟨rfl, bb⟩
    have bz1 : Below w27.heap.size w27 wz27_1:=bu bA bb
    clear bA hgo bb hHeld
    refine hKK.out _ _ (K.out _ bz1) (fun hHeld => ?_)
    clear hKK KK
    refine tx 3 228 ?_
    refine tx 4 229 ?_
    refine tx 6 231 ?_
    refine tx 9 234 ?_
    refine tx 5 230 ?_
    refine tx 7 232 ?_
    refine tx 10 235 ?_
    refine tx 11 236 ?_
    refine rd 8 rfl (fun KK hKK => ?_)
    go_simp
    have hgo:=bz1
    refine (CM.out _ hgo).mono ?_
    rintro e wz27_2 ⟨rfl, bb⟩
    have bz2 : Below w27.heap.size w27 wz27_2:=bu bz1 bb
    clear bz1 hgo bb hHeld
    refine hKK.out _ _ (K.out _ bz2) (fun hHeld => ?_)
    clear hKK KK
    refine tx 12 237 ?_
    refine tx 13 238 ?_
    refine tx 14 2 ?_
    clear hHeld
    refine wdn ?_
    have bb:=bz2
    have Bwz27_2:=bu Bw27 bb
    have swz27_2:=bb.size
    replace LA:=LA.up bb
    replace LB:=LB.up bb
    replace LJ:=LJ.up bb
    replace LC:=LC.up bb
    replace LP:=LP.up bb
    replace LD:=LD.up bb
    replace LX:=LX.up bb
    replace LG:=LG.up bb
    clear Bw27
    replace OA:=hide (OA.out.below bb)
    replace OB:=hide (OB.out.below bb)
    replace OJ:=hide (OJ.out.below bb)
    replace TP:=hide (TP.out.below bb)
    replace OP:=hide (OP.out.below bb)
    replace TT:=hide (TT.out.below bb)
    replace OX:=hide (OX.out.below bb)
    replace OG3:=hide (OG3.out.below bb)
    clear bb bz2 K
    go_wp2
    go_ret
    exact ⟨by simp, Bwz27_2⟩
  obtain ⟨cLA0,cLA1,cLA2⟩:=cc3 LA 0 1 2
  obtain ⟨cLB0,cLB1,cLB2⟩:=cc3 LB 0 1 2
  go_wp2_with fail
  refine (IJ2.out _ OA.out OB.out (GE.out _ Bw25) trivial).mono ?_
  rintro _ w26 ⟨ui, rfl, OI2, bb⟩
  clear cLA0 cLA1 cLA2 cLB0 cLB1 cLB2
  have Bw26:=bu Bw25 bb
  have sw26:=bb.size
  replace LA:=LA.up bb
  replace LB:=LB.up bb
  replace LJ:=LJ.up bb
  replace LC:=LC.up bb
  replace LP:=LP.up bb
  replace LD:=LD.up bb
  replace LX:=LX.up bb
  clear Bw25
  replace OA:=hide (OA.out.below bb)
  replace OB:=hide (OB.out.below bb)
  replace OJ:=hide (OJ.out.below bb)
  replace TP:=hide (TP.out.below bb)
  replace OP:=hide (OP.out.below bb)
  replace TT:=hide (TT.out.below bb)
  replace OX:=hide (OX.out.below bb)
  clear bb IJ2
  replace OI2:=OI.ri OI2 (by omega)
  obtain ⟨aI, cI, rfl⟩:=OI2.form
  replace OI2:=hide OI2
  go_upto_region 22 with fail
  obtain ⟨w27, hw27⟩ : ∃ y, w26.alloc (.cells #[.int .i64 jv,.string js,.slice aI (jl).length cI] 36) = y:=⟨_, rfl⟩
  have bb : Below w26.heap.size w26 w27:=hw27 ▸ qalloc _ _
  have LI : Loc w27 w26.heap.size #[.int .i64 jv,.string js,.slice aI (jl).length cI]:=hw27 ▸ loc_at w26 _ _ rfl
  have zw27 : w26.heap.size + 1 ≤ w27.heap.size:=by rw [← hw27]; simp
  rw [hw27]
  clear hw27
  have Bw27:=bu Bw26 bb
  have sw27:=bb.size
  replace LA:=LA.up bb
  replace LB:=LB.up bb
  replace LJ:=LJ.up bb
  replace LC:=LC.up bb
  replace LP:=LP.up bb
  replace LD:=LD.up bb
  replace LX:=LX.up bb
  clear Bw26
  replace OA:=hide (OA.out.below bb)
  replace OB:=hide (OB.out.below bb)
  replace OJ:=hide (OJ.out.below bb)
  replace TP:=hide (TP.out.below bb)
  replace OP:=hide (OP.out.below bb)
  replace TT:=hide (TT.out.below bb)
  replace OX:=hide (OX.out.below bb)
  replace OI2:=hide (OI2.out.below bb)
  clear bb
  obtain ⟨cLI0,cLI1,cLI2⟩:=cc3 LI 0 1 2
  obtain ⟨cLJ0,cLJ1,cLJ2⟩:=cc3 LJ 0 1 2
  go_wp2_with fail
  refine (samePart_yes jv js (.slice aI (jl).length cI) (.slice aJ (jl).length cJ) jl _ OI2.out OJ.out).mono ?_
  rintro _ w28 ⟨rfl, bb⟩
  clear cLI0 cLI1 cLI2 cLJ0 cLJ1 cLJ2
  have Bw28:=bu Bw27 bb
  have sw28:=bb.size
  replace LA:=LA.up bb
  replace LB:=LB.up bb
  replace LJ:=LJ.up bb
  replace LC:=LC.up bb
  replace LP:=LP.up bb
  replace LD:=LD.up bb
  replace LX:=LX.up bb
  replace LI:=LI.up bb
  clear Bw27
  replace OA:=hide (OA.out.below bb)
  replace OB:=hide (OB.out.below bb)
  replace OJ:=hide (OJ.out.below bb)
  replace TP:=hide (TP.out.below bb)
  replace OP:=hide (OP.out.below bb)
  replace TT:=hide (TT.out.below bb)
  replace OX:=hide (OX.out.below bb)
  replace OI2:=hide (OI2.out.below bb)
  clear bb
  as_aux_lemma =>
  cases put
  ·have hrt:=hide (AF.out.2 rfl)
   go_wp2_with fail
   refine (sameTable_yes (.slice aTT (rt).length cTT) (.slice aT (ps).length cT) ps _ (by omega) (by rw [← hrt.out]; exact TT.out) TP.out).mono ?_
   rintro _ w29 ⟨rfl, bb⟩
   have Bw29:=bu Bw28 bb
   have sw29:=bb.size
   replace LA:=LA.up bb
   replace LB:=LB.up bb
   replace LJ:=LJ.up bb
   replace LC:=LC.up bb
   replace LP:=LP.up bb
   replace LD:=LD.up bb
   replace LX:=LX.up bb
   replace LI:=LI.up bb
   clear Bw28
   replace OA:=hide (OA.out.below bb)
   replace OB:=hide (OB.out.below bb)
   replace OJ:=hide (OJ.out.below bb)
   replace TP:=hide (TP.out.below bb)
   replace OP:=hide (OP.out.below bb)
   replace TT:=hide (TT.out.below bb)
   replace OX:=hide (OX.out.below bb)
   replace OI2:=hide (OI2.out.below bb)
   clear bb
   go_wp2
   go_ret
   exact ⟨rfl, Bw29⟩
  obtain ⟨htk, hcm⟩:=AF.out.1 rfl
  have hgg:=hide (smp_get S2.out vp sp)
  have IG2:=hide fun w' (h : RPt w' (.slice aTT (rt).length cTT) rt) => implTableGet (.slice aTT (rt).length cTT) rt vp sp w' (by have:=HL3.out; omega) (by omega) (fun p hp => by have:=S2.out p hp; omega) h
  have HK:=hide htk
  have HC:=hide hcm
  clear htk hcm AF
  generalize getP rt vp sp = gg at *
  obtain ⟨cLP0,cLP1,cLP2⟩:=cc3 LP 0 1 2
  go_wp2_with fail
  refine (IG2.out _ TT.out).mono ?_
  rintro _ w29 ⟨ug3, rfl, OG3, bb⟩
  clear cLP0 cLP1 cLP2
  have Bw29:=bu Bw28 bb
  have sw29:=bb.size
  replace LA:=LA.up bb
  replace LB:=LB.up bb
  replace LJ:=LJ.up bb
  replace LC:=LC.up bb
  replace LP:=LP.up bb
  replace LD:=LD.up bb
  replace LX:=LX.up bb
  replace LI:=LI.up bb
  clear Bw28
  replace OA:=hide (OA.out.below bb)
  replace OB:=hide (OB.out.below bb)
  replace OJ:=hide (OJ.out.below bb)
  replace TP:=hide (TP.out.below bb)
  replace OP:=hide (OP.out.below bb)
  replace TT:=hide (TT.out.below bb)
  replace OX:=hide (OX.out.below bb)
  replace OI2:=hide (OI2.out.below bb)
  clear bb IG2
  replace OG3:=OI.ri OG3 (by have:=hgg.out; omega)
  obtain ⟨aG3, cG3, rfl⟩:=OG3.form
  replace OG3:=hide OG3
  go_upto_region 27 with fail
  obtain ⟨w30, hw30⟩ : ∃ y, w29.alloc (.cells #[.int .i64 gg.1,.string gg.2.1,.slice aG3 (gg.2.2).length cG3] 36) = y:=⟨_, rfl⟩
  have bb : Below w29.heap.size w29 w30:=hw30 ▸ qalloc _ _
  have LG : Loc w30 w29.heap.size #[.int .i64 gg.1,.string gg.2.1,.slice aG3 (gg.2.2).length cG3]:=hw30 ▸ loc_at w29 _ _ rfl
  have zw30 : w29.heap.size + 1 ≤ w30.heap.size:=by rw [← hw30]; simp
  rw [hw30]
  clear hw30
  have Bw30:=bu Bw29 bb
  have sw30:=bb.size
  replace LA:=LA.up bb
  replace LB:=LB.up bb
  replace LJ:=LJ.up bb
  replace LC:=LC.up bb
  replace LP:=LP.up bb
  replace LD:=LD.up bb
  replace LX:=LX.up bb
  replace LI:=LI.up bb
  clear Bw29
  replace OA:=hide (OA.out.below bb)
  replace OB:=hide (OB.out.below bb)
  replace OJ:=hide (OJ.out.below bb)
  replace TP:=hide (TP.out.below bb)
  replace OP:=hide (OP.out.below bb)
  replace TT:=hide (TT.out.below bb)
  replace OX:=hide (OX.out.below bb)
  replace OI2:=hide (OI2.out.below bb)
  replace OG3:=hide (OG3.out.below bb)
  clear bb
  have TK:=hide fun w' (hb : Below w30.heap.size w30 w') => implTableOk n f (.slice aTT (rt).length cTT) rt w' (by have:=HL3.out; omega) (fun p hp => by have:=S2.out p hp; omega) (HE.out w' (bu Bw30 hb)) (TT.out.below hb)
  rw [HK.out] at TK
  have CM:=hide fun w' (hb : Below w30.heap.size w30 w') => implCommon (.slice aP (xp).length cP) (.slice aG3 (gg.2.2).length cG3) xp gg.2.2 w' (OP.out.below hb) (OG3.out.below hb) hwp.out hgg.out.2
  rw [HC.out] at CM
  have eL : ((xp.length : Int) == (xp.length : Int)) = true:=by simp
  have eN : (xp.length == xp.length) = true:=by simp
  have K:=kw (ka (kc2 LC 0 1) (ka (kc3 LP 0 1 2) (kc3 LG 0 1 2)))
  refine wra K (fun bA hHeld => ?_)
  refine tx 0 225 ?_
  refine tx 1 226 ?_
  refine rd 2 rfl (fun KK hKK => ?_)
  go_simp
  have hgo:=bA
  refine (TK.out _ hgo).mono ?_
  rintro e wz27_1 ⟨rfl, bb⟩
  have bz1 : Below w30.heap.size w30 wz27_1:=bu bA bb
  clear bA hgo bb hHeld
  refine hKK.out _ _ (K.out _ bz1) (fun hHeld => ?_)
  clear hKK KK
  refine tx 3 228 ?_
  refine tx 4 229 ?_
  refine tx 6 231 ?_
  refine tx 9 234 ?_
  refine tx 5 230 ?_
  refine tx 7 232 ?_
  refine tx 10 235 ?_
  refine tx 11 236 ?_
  refine rd 8 rfl (fun KK hKK => ?_)
  go_simp
  have hgo:=bz1
  refine (CM.out _ hgo).mono ?_
  rintro e wz27_2 ⟨rfl, bb⟩
  have bz2 : Below w30.heap.size w30 wz27_2:=bu bz1 bb
  clear bz1 hgo bb hHeld
  refine hKK.out _ _ (K.out _ bz2) (fun hHeld => ?_)
  clear hKK KK
  refine tx 12 237 ?_
  refine tx 13 238 ?_
  refine tx 14 2 ?_
  clear hHeld
  refine wdn ?_
  have bb:=bz2
  have Bwz27_2:=bu Bw30 bb
  have swz27_2:=bb.size
  replace LA:=LA.up bb
  replace LB:=LB.up bb
  replace LJ:=LJ.up bb
  replace LC:=LC.up bb
  replace LP:=LP.up bb
  replace LD:=LD.up bb
  replace LX:=LX.up bb
  replace LI:=LI.up bb
  replace LG:=LG.up bb
  clear Bw30
  replace OA:=hide (OA.out.below bb)
  replace OB:=hide (OB.out.below bb)
  replace OJ:=hide (OJ.out.below bb)
  replace TP:=hide (TP.out.below bb)
  replace OP:=hide (OP.out.below bb)
  replace TT:=hide (TT.out.below bb)
  replace OX:=hide (OX.out.below bb)
  replace OI2:=hide (OI2.out.below bb)
  replace OG3:=hide (OG3.out.below bb)
  clear bb bz2 K
  go_wp2
  go_ret
  exact ⟨by simp, Bwz27_2⟩
 have hq:=QF.out rfl
 have QO:=hide fun w' (h : RI w' (.slice aX (yl).length cX) yl) (hE : Env w') => implQcOk_at nd fd yv ys aX cX yl w' (by omega) hE h
 rw [qok_eq, hq] at QO
 clear hq
 obtain ⟨cLD0,cLD1⟩:=cc2 LD 0 1
 obtain ⟨cLX0,cLX1,cLX2⟩:=cc3 LX 0 1 2
 go_wp2_with fail
 refine (QO.out _ OX.out (HE.out _ Bwz16_13)).mono ?_
 rintro _ w24 ⟨rfl, bb⟩
 clear cLD0 cLD1 cLX0 cLX1 cLX2
 have Bw24:=bu Bwz16_13 bb
 have sw24:=bb.size
 replace LA:=LA.up bb
 replace LB:=LB.up bb
 replace LJ:=LJ.up bb
 replace LC:=LC.up bb
 replace LP:=LP.up bb
 replace LD:=LD.up bb
 replace LX:=LX.up bb
 clear Bwz16_13
 replace OA:=hide (OA.out.below bb)
 replace OB:=hide (OB.out.below bb)
 replace OJ:=hide (OJ.out.below bb)
 replace TP:=hide (TP.out.below bb)
 replace OP:=hide (OP.out.below bb)
 replace TT:=hide (TT.out.below bb)
 replace OX:=hide (OX.out.below bb)
 clear bb QO
 cases ok
 ·as_aux_lemma =>
   cases put
   ·have hrt:=hide (AF.out.2 rfl)
    go_wp2_with fail
    refine (sameTable_yes (.slice aTT (rt).length cTT) (.slice aT (ps).length cT) ps _ (by omega) (by rw [← hrt.out]; exact TT.out) TP.out).mono ?_
    rintro _ w25 ⟨rfl, bb⟩
    have Bw25:=bu Bw24 bb
    have sw25:=bb.size
    replace LA:=LA.up bb
    replace LB:=LB.up bb
    replace LJ:=LJ.up bb
    replace LC:=LC.up bb
    replace LP:=LP.up bb
    replace LD:=LD.up bb
    replace LX:=LX.up bb
    clear Bw24
    replace OA:=hide (OA.out.below bb)
    replace OB:=hide (OB.out.below bb)
    replace OJ:=hide (OJ.out.below bb)
    replace TP:=hide (TP.out.below bb)
    replace OP:=hide (OP.out.below bb)
    replace TT:=hide (TT.out.below bb)
    replace OX:=hide (OX.out.below bb)
    clear bb
    go_wp2
    go_ret
    exact ⟨rfl, Bw25⟩
   obtain ⟨htk, hcm⟩:=AF.out.1 rfl
   have hgg:=hide (smp_get S2.out vp sp)
   have IG2:=hide fun w' (h : RPt w' (.slice aTT (rt).length cTT) rt) => implTableGet (.slice aTT (rt).length cTT) rt vp sp w' (by have:=HL3.out; omega) (by omega) (fun p hp => by have:=S2.out p hp; omega) h
   have HK:=hide htk
   have HC:=hide hcm
   clear htk hcm AF
   generalize getP rt vp sp = gg at *
   obtain ⟨cLP0,cLP1,cLP2⟩:=cc3 LP 0 1 2
   go_wp2_with fail
   refine (IG2.out _ TT.out).mono ?_
   rintro _ w25 ⟨ug3, rfl, OG3, bb⟩
   clear cLP0 cLP1 cLP2
   have Bw25:=bu Bw24 bb
   have sw25:=bb.size
   replace LA:=LA.up bb
   replace LB:=LB.up bb
   replace LJ:=LJ.up bb
   replace LC:=LC.up bb
   replace LP:=LP.up bb
   replace LD:=LD.up bb
   replace LX:=LX.up bb
   clear Bw24
   replace OA:=hide (OA.out.below bb)
   replace OB:=hide (OB.out.below bb)
   replace OJ:=hide (OJ.out.below bb)
   replace TP:=hide (TP.out.below bb)
   replace OP:=hide (OP.out.below bb)
   replace TT:=hide (TT.out.below bb)
   replace OX:=hide (OX.out.below bb)
   clear bb IG2
   replace OG3:=OI.ri OG3 (by have:=hgg.out; omega)
   obtain ⟨aG3, cG3, rfl⟩:=OG3.form
   replace OG3:=hide OG3
   go_upto_region 27 with fail
   obtain ⟨w26, hw26⟩ : ∃ y, w25.alloc (.cells #[.int .i64 gg.1,.string gg.2.1,.slice aG3 (gg.2.2).length cG3] 36) = y:=⟨_, rfl⟩
   have bb : Below w25.heap.size w25 w26:=hw26 ▸ qalloc _ _
   have LG : Loc w26 w25.heap.size #[.int .i64 gg.1,.string gg.2.1,.slice aG3 (gg.2.2).length cG3]:=hw26 ▸ loc_at w25 _ _ rfl
   have zw26 : w25.heap.size + 1 ≤ w26.heap.size:=by rw [← hw26]; simp
   rw [hw26]
   clear hw26
   have Bw26:=bu Bw25 bb
   have sw26:=bb.size
   replace LA:=LA.up bb
   replace LB:=LB.up bb
   replace LJ:=LJ.up bb
   replace LC:=LC.up bb
   replace LP:=LP.up bb
   replace LD:=LD.up bb
   replace LX:=LX.up bb
   clear Bw25
   replace OA:=hide (OA.out.below bb)
   replace OB:=hide (OB.out.below bb)
   replace OJ:=hide (OJ.out.below bb)
   replace TP:=hide (TP.out.below bb)
   replace OP:=hide (OP.out.below bb)
   replace TT:=hide (TT.out.below bb)
   replace OX:=hide (OX.out.below bb)
   replace OG3:=hide (OG3.out.below bb)
   clear bb
   have TK:=hide fun w' (hb : Below w26.heap.size w26 w') => implTableOk n f (.slice aTT (rt).length cTT) rt w' (by have:=HL3.out; omega) (fun p hp => by have:=S2.out p hp; omega) (HE.out w' (bu Bw26 hb)) (TT.out.below hb)
   rw [HK.out] at TK
   have CM:=hide fun w' (hb : Below w26.heap.size w26 w') => implCommon (.slice aP (xp).length cP) (.slice aG3 (gg.2.2).length cG3) xp gg.2.2 w' (OP.out.below hb) (OG3.out.below hb) hwp.out hgg.out.2
   rw [HC.out] at CM
   have eL : ((xp.length : Int) == (xp.length : Int)) = true:=by simp
   have eN : (xp.length == xp.length) = true:=by simp
   have K:=kw (ka (kc2 LC 0 1) (ka (kc3 LP 0 1 2) (kc3 LG 0 1 2)))
   refine wra K (fun bA hHeld => ?_)
   refine tx 0 225 ?_
   refine tx 1 226 ?_
   refine rd 2 rfl (fun KK hKK => ?_)
   go_simp
   have hgo:=bA
   refine (TK.out _ hgo).mono ?_
   rintro e wz27_1 ⟨rfl, bb⟩
   have bz1 : Below w26.heap.size w26 wz27_1:=bu bA bb
   clear bA hgo bb hHeld
   refine hKK.out _ _ (K.out _ bz1) (fun hHeld => ?_)
   clear hKK KK
   refine tx 3 228 ?_
   refine tx 4 229 ?_
   refine tx 6 231 ?_
   refine tx 9 234 ?_
   refine tx 5 230 ?_
   refine tx 7 232 ?_
   refine tx 10 235 ?_
   refine tx 11 236 ?_
   refine rd 8 rfl (fun KK hKK => ?_)
   go_simp
   have hgo:=bz1
   refine (CM.out _ hgo).mono ?_
   rintro e wz27_2 ⟨rfl, bb⟩
   have bz2 : Below w26.heap.size w26 wz27_2:=bu bz1 bb
   clear bz1 hgo bb hHeld
   refine hKK.out _ _ (K.out _ bz2) (fun hHeld => ?_)
   clear hKK KK
   refine tx 12 237 ?_
   refine tx 13 238 ?_
   refine tx 14 2 ?_
   clear hHeld
   refine wdn ?_
   have bb:=bz2
   have Bwz27_2:=bu Bw26 bb
   have swz27_2:=bb.size
   replace LA:=LA.up bb
   replace LB:=LB.up bb
   replace LJ:=LJ.up bb
   replace LC:=LC.up bb
   replace LP:=LP.up bb
   replace LD:=LD.up bb
   replace LX:=LX.up bb
   replace LG:=LG.up bb
   clear Bw26
   replace OA:=hide (OA.out.below bb)
   replace OB:=hide (OB.out.below bb)
   replace OJ:=hide (OJ.out.below bb)
   replace TP:=hide (TP.out.below bb)
   replace OP:=hide (OP.out.below bb)
   replace TT:=hide (TT.out.below bb)
   replace OX:=hide (OX.out.below bb)
   replace OG3:=hide (OG3.out.below bb)
   clear bb bz2 K
   go_wp2
   go_ret
   exact ⟨by simp, Bwz27_2⟩
 have SA:=hide fun w' (h : RI w' (.slice aA (xa).length cA) xa) => implSetOk 7 (.slice aA (xa).length cA) xa w' h
 have SB:=hide fun w' (h : RI w' (.slice aB (xb).length cB) xb) => implSetOk 7 (.slice aB (xb).length cB) xb w' h
 generalize decide (OkL 7 xa) = ba at SA
 generalize decide (OkL 7 xb) = bb' at SB
 obtain ⟨cLA0,cLA1,cLA2⟩:=cc3 LA 0 1 2
 obtain ⟨cLB0,cLB1,cLB2⟩:=cc3 LB 0 1 2
 go_wp2_with fail
 refine (SA.out _ OA.out).mono ?_
 rintro _ w25 ⟨rfl, bb⟩
 clear cLA0 cLA1 cLA2 cLB0 cLB1 cLB2
 have Bw25:=bu Bw24 bb
 have sw25:=bb.size
 replace LA:=LA.up bb
 replace LB:=LB.up bb
 replace LJ:=LJ.up bb
 replace LC:=LC.up bb
 replace LP:=LP.up bb
 replace LD:=LD.up bb
 replace LX:=LX.up bb
 clear Bw24
 replace OA:=hide (OA.out.below bb)
 replace OB:=hide (OB.out.below bb)
 replace OJ:=hide (OJ.out.below bb)
 replace TP:=hide (TP.out.below bb)
 replace OP:=hide (OP.out.below bb)
 replace TT:=hide (TT.out.below bb)
 replace OX:=hide (OX.out.below bb)
 clear bb SA
 cases ba
 ·as_aux_lemma =>
   cases put
   ·have hrt:=hide (AF.out.2 rfl)
    go_wp2_with fail
    refine (sameTable_yes (.slice aTT (rt).length cTT) (.slice aT (ps).length cT) ps _ (by omega) (by rw [← hrt.out]; exact TT.out) TP.out).mono ?_
    rintro _ w26 ⟨rfl, bb⟩
    have Bw26:=bu Bw25 bb
    have sw26:=bb.size
    replace LA:=LA.up bb
    replace LB:=LB.up bb
    replace LJ:=LJ.up bb
    replace LC:=LC.up bb
    replace LP:=LP.up bb
    replace LD:=LD.up bb
    replace LX:=LX.up bb
    clear Bw25
    replace OA:=hide (OA.out.below bb)
    replace OB:=hide (OB.out.below bb)
    replace OJ:=hide (OJ.out.below bb)
    replace TP:=hide (TP.out.below bb)
    replace OP:=hide (OP.out.below bb)
    replace TT:=hide (TT.out.below bb)
    replace OX:=hide (OX.out.below bb)
    clear bb
    go_wp2
    go_ret
    exact ⟨rfl, Bw26⟩
   obtain ⟨htk, hcm⟩:=AF.out.1 rfl
   have hgg:=hide (smp_get S2.out vp sp)
   have IG2:=hide fun w' (h : RPt w' (.slice aTT (rt).length cTT) rt) => implTableGet (.slice aTT (rt).length cTT) rt vp sp w' (by have:=HL3.out; omega) (by omega) (fun p hp => by have:=S2.out p hp; omega) h
   have HK:=hide htk
   have HC:=hide hcm
   clear htk hcm AF
   generalize getP rt vp sp = gg at *
   obtain ⟨cLP0,cLP1,cLP2⟩:=cc3 LP 0 1 2
   go_wp2_with fail
   refine (IG2.out _ TT.out).mono ?_
   rintro _ w26 ⟨ug3, rfl, OG3, bb⟩
   clear cLP0 cLP1 cLP2
   have Bw26:=bu Bw25 bb
   have sw26:=bb.size
   replace LA:=LA.up bb
   replace LB:=LB.up bb
   replace LJ:=LJ.up bb
   replace LC:=LC.up bb
   replace LP:=LP.up bb
   replace LD:=LD.up bb
   replace LX:=LX.up bb
   clear Bw25
   replace OA:=hide (OA.out.below bb)
   replace OB:=hide (OB.out.below bb)
   replace OJ:=hide (OJ.out.below bb)
   replace TP:=hide (TP.out.below bb)
   replace OP:=hide (OP.out.below bb)
   replace TT:=hide (TT.out.below bb)
   replace OX:=hide (OX.out.below bb)
   clear bb IG2
   replace OG3:=OI.ri OG3 (by have:=hgg.out; omega)
   obtain ⟨aG3, cG3, rfl⟩:=OG3.form
   replace OG3:=hide OG3
   go_upto_region 27 with fail
   obtain ⟨w27, hw27⟩ : ∃ y, w26.alloc (.cells #[.int .i64 gg.1,.string gg.2.1,.slice aG3 (gg.2.2).length cG3] 36) = y:=⟨_, rfl⟩
   have bb : Below w26.heap.size w26 w27:=hw27 ▸ qalloc _ _
   have LG : Loc w27 w26.heap.size #[.int .i64 gg.1,.string gg.2.1,.slice aG3 (gg.2.2).length cG3]:=hw27 ▸ loc_at w26 _ _ rfl
   have zw27 : w26.heap.size + 1 ≤ w27.heap.size:=by rw [← hw27]; simp
   rw [hw27]
   clear hw27
   have Bw27:=bu Bw26 bb
   have sw27:=bb.size
   replace LA:=LA.up bb
   replace LB:=LB.up bb
   replace LJ:=LJ.up bb
   replace LC:=LC.up bb
   replace LP:=LP.up bb
   replace LD:=LD.up bb
   replace LX:=LX.up bb
   clear Bw26
   replace OA:=hide (OA.out.below bb)
   replace OB:=hide (OB.out.below bb)
   replace OJ:=hide (OJ.out.below bb)
   replace TP:=hide (TP.out.below bb)
   replace OP:=hide (OP.out.below bb)
   replace TT:=hide (TT.out.below bb)
   replace OX:=hide (OX.out.below bb)
   replace OG3:=hide (OG3.out.below bb)
   clear bb
   have TK:=hide fun w' (hb : Below w27.heap.size w27 w') => implTableOk n f (.slice aTT (rt).length cTT) rt w' (by have:=HL3.out; omega) (fun p hp => by have:=S2.out p hp; omega) (HE.out w' (bu Bw27 hb)) (TT.out.below hb)
   rw [HK.out] at TK
   have CM:=hide fun w' (hb : Below w27.heap.size w27 w') => implCommon (.slice aP (xp).length cP) (.slice aG3 (gg.2.2).length cG3) xp gg.2.2 w' (OP.out.below hb) (OG3.out.below hb) hwp.out hgg.out.2
   rw [HC.out] at CM
   have eL : ((xp.length : Int) == (xp.length : Int)) = true:=by simp
   have eN : (xp.length == xp.length) = true:=by simp
   have K:=kw (ka (kc2 LC 0 1) (ka (kc3 LP 0 1 2) (kc3 LG 0 1 2)))
   refine wra K (fun bA hHeld => ?_)
   refine tx 0 225 ?_
   refine tx 1 226 ?_
   refine rd 2 rfl (fun KK hKK => ?_)
   go_simp
   have hgo:=bA
   refine (TK.out _ hgo).mono ?_
   rintro e wz27_1 ⟨rfl, bb⟩
   have bz1 : Below w27.heap.size w27 wz27_1:=bu bA bb
   clear bA hgo bb hHeld
   refine hKK.out _ _ (K.out _ bz1) (fun hHeld => ?_)
   clear hKK KK
   refine tx 3 228 ?_
   refine tx 4 229 ?_
   refine tx 6 231 ?_
   refine tx 9 234 ?_
   refine tx 5 230 ?_
   refine tx 7 232 ?_
   refine tx 10 235 ?_
   refine tx 11 236 ?_
   refine rd 8 rfl (fun KK hKK => ?_)
   go_simp
   have hgo:=bz1
   refine (CM.out _ hgo).mono ?_
   rintro e wz27_2 ⟨rfl, bb⟩
   have bz2 : Below w27.heap.size w27 wz27_2:=bu bz1 bb
   clear bz1 hgo bb hHeld
   refine hKK.out _ _ (K.out _ bz2) (fun hHeld => ?_)
   clear hKK KK
   refine tx 12 237 ?_
   refine tx 13 238 ?_
   refine tx 14 2 ?_
   clear hHeld
   refine wdn ?_
   have bb:=bz2
   have Bwz27_2:=bu Bw27 bb
   have swz27_2:=bb.size
   replace LA:=LA.up bb
   replace LB:=LB.up bb
   replace LJ:=LJ.up bb
   replace LC:=LC.up bb
   replace LP:=LP.up bb
   replace LD:=LD.up bb
   replace LX:=LX.up bb
   replace LG:=LG.up bb
   clear Bw27
   replace OA:=hide (OA.out.below bb)
   replace OB:=hide (OB.out.below bb)
   replace OJ:=hide (OJ.out.below bb)
   replace TP:=hide (TP.out.below bb)
   replace OP:=hide (OP.out.below bb)
   replace TT:=hide (TT.out.below bb)
   replace OX:=hide (OX.out.below bb)
   replace OG3:=hide (OG3.out.below bb)
   clear bb bz2 K
   go_wp2
   go_ret
   exact ⟨by simp, Bwz27_2⟩
 obtain ⟨cLA0,cLA1,cLA2⟩:=cc3 LA 0 1 2
 obtain ⟨cLB0,cLB1,cLB2⟩:=cc3 LB 0 1 2
 go_wp2_with fail
 refine (SB.out _ OB.out).mono ?_
 rintro _ w26 ⟨rfl, bb⟩
 clear cLA0 cLA1 cLA2 cLB0 cLB1 cLB2
 have Bw26:=bu Bw25 bb
 have sw26:=bb.size
 replace LA:=LA.up bb
 replace LB:=LB.up bb
 replace LJ:=LJ.up bb
 replace LC:=LC.up bb
 replace LP:=LP.up bb
 replace LD:=LD.up bb
 replace LX:=LX.up bb
 clear Bw25
 replace OA:=hide (OA.out.below bb)
 replace OB:=hide (OB.out.below bb)
 replace OJ:=hide (OJ.out.below bb)
 replace TP:=hide (TP.out.below bb)
 replace OP:=hide (OP.out.below bb)
 replace TT:=hide (TT.out.below bb)
 replace OX:=hide (OX.out.below bb)
 clear bb SB
 cases bb'
 ·as_aux_lemma =>
   cases put
   ·have hrt:=hide (AF.out.2 rfl)
    go_wp2_with fail
    refine (sameTable_yes (.slice aTT (rt).length cTT) (.slice aT (ps).length cT) ps _ (by omega) (by rw [← hrt.out]; exact TT.out) TP.out).mono ?_
    rintro _ w27 ⟨rfl, bb⟩
    have Bw27:=bu Bw26 bb
    have sw27:=bb.size
    replace LA:=LA.up bb
    replace LB:=LB.up bb
    replace LJ:=LJ.up bb
    replace LC:=LC.up bb
    replace LP:=LP.up bb
    replace LD:=LD.up bb
    replace LX:=LX.up bb
    clear Bw26
    replace OA:=hide (OA.out.below bb)
    replace OB:=hide (OB.out.below bb)
    replace OJ:=hide (OJ.out.below bb)
    replace TP:=hide (TP.out.below bb)
    replace OP:=hide (OP.out.below bb)
    replace TT:=hide (TT.out.below bb)
    replace OX:=hide (OX.out.below bb)
    clear bb
    go_wp2
    go_ret
    exact ⟨rfl, Bw27⟩
   obtain ⟨htk, hcm⟩:=AF.out.1 rfl
   have hgg:=hide (smp_get S2.out vp sp)
   have IG2:=hide fun w' (h : RPt w' (.slice aTT (rt).length cTT) rt) => implTableGet (.slice aTT (rt).length cTT) rt vp sp w' (by have:=HL3.out; omega) (by omega) (fun p hp => by have:=S2.out p hp; omega) h
   have HK:=hide htk
   have HC:=hide hcm
   clear htk hcm AF
   generalize getP rt vp sp = gg at *
   obtain ⟨cLP0,cLP1,cLP2⟩:=cc3 LP 0 1 2
   go_wp2_with fail
   refine (IG2.out _ TT.out).mono ?_
   rintro _ w27 ⟨ug3, rfl, OG3, bb⟩
   clear cLP0 cLP1 cLP2
   have Bw27:=bu Bw26 bb
   have sw27:=bb.size
   replace LA:=LA.up bb
   replace LB:=LB.up bb
   replace LJ:=LJ.up bb
   replace LC:=LC.up bb
   replace LP:=LP.up bb
   replace LD:=LD.up bb
   replace LX:=LX.up bb
   clear Bw26
   replace OA:=hide (OA.out.below bb)
   replace OB:=hide (OB.out.below bb)
   replace OJ:=hide (OJ.out.below bb)
   replace TP:=hide (TP.out.below bb)
   replace OP:=hide (OP.out.below bb)
   replace TT:=hide (TT.out.below bb)
   replace OX:=hide (OX.out.below bb)
   clear bb IG2
   replace OG3:=OI.ri OG3 (by have:=hgg.out; omega)
   obtain ⟨aG3, cG3, rfl⟩:=OG3.form
   replace OG3:=hide OG3
   go_upto_region 27 with fail
   obtain ⟨w28, hw28⟩ : ∃ y, w27.alloc (.cells #[.int .i64 gg.1,.string gg.2.1,.slice aG3 (gg.2.2).length cG3] 36) = y:=⟨_, rfl⟩
   have bb : Below w27.heap.size w27 w28:=hw28 ▸ qalloc _ _
   have LG : Loc w28 w27.heap.size #[.int .i64 gg.1,.string gg.2.1,.slice aG3 (gg.2.2).length cG3]:=hw28 ▸ loc_at w27 _ _ rfl
   have zw28 : w27.heap.size + 1 ≤ w28.heap.size:=by rw [← hw28]; simp
   rw [hw28]
   clear hw28
   have Bw28:=bu Bw27 bb
   have sw28:=bb.size
   replace LA:=LA.up bb
   replace LB:=LB.up bb
   replace LJ:=LJ.up bb
   replace LC:=LC.up bb
   replace LP:=LP.up bb
   replace LD:=LD.up bb
   replace LX:=LX.up bb
   clear Bw27
   replace OA:=hide (OA.out.below bb)
   replace OB:=hide (OB.out.below bb)
   replace OJ:=hide (OJ.out.below bb)
   replace TP:=hide (TP.out.below bb)
   replace OP:=hide (OP.out.below bb)
   replace TT:=hide (TT.out.below bb)
   replace OX:=hide (OX.out.below bb)
   replace OG3:=hide (OG3.out.below bb)
   clear bb
   have TK:=hide fun w' (hb : Below w28.heap.size w28 w') => implTableOk n f (.slice aTT (rt).length cTT) rt w' (by have:=HL3.out; omega) (fun p hp => by have:=S2.out p hp; omega) (HE.out w' (bu Bw28 hb)) (TT.out.below hb)
   rw [HK.out] at TK
   have CM:=hide fun w' (hb : Below w28.heap.size w28 w') => implCommon (.slice aP (xp).length cP) (.slice aG3 (gg.2.2).length cG3) xp gg.2.2 w' (OP.out.below hb) (OG3.out.below hb) hwp.out hgg.out.2
   rw [HC.out] at CM
   have eL : ((xp.length : Int) == (xp.length : Int)) = true:=by simp
   have eN : (xp.length == xp.length) = true:=by simp
   have K:=kw (ka (kc2 LC 0 1) (ka (kc3 LP 0 1 2) (kc3 LG 0 1 2)))
   refine wra K (fun bA hHeld => ?_)
   refine tx 0 225 ?_
   refine tx 1 226 ?_
   refine rd 2 rfl (fun KK hKK => ?_)
   go_simp
   have hgo:=bA
   refine (TK.out _ hgo).mono ?_
   rintro e wz27_1 ⟨rfl, bb⟩
   have bz1 : Below w28.heap.size w28 wz27_1:=bu bA bb
   clear bA hgo bb hHeld
   refine hKK.out _ _ (K.out _ bz1) (fun hHeld => ?_)
   clear hKK KK
   refine tx 3 228 ?_
   refine tx 4 229 ?_
   refine tx 6 231 ?_
   refine tx 9 234 ?_
   refine tx 5 230 ?_
   refine tx 7 232 ?_
   refine tx 10 235 ?_
   refine tx 11 236 ?_
   refine rd 8 rfl (fun KK hKK => ?_)
   go_simp
   have hgo:=bz1
   refine (CM.out _ hgo).mono ?_
   rintro e wz27_2 ⟨rfl, bb⟩
   have bz2 : Below w28.heap.size w28 wz27_2:=bu bz1 bb
   clear bz1 hgo bb hHeld
   refine hKK.out _ _ (K.out _ bz2) (fun hHeld => ?_)
   clear hKK KK
   refine tx 12 237 ?_
   refine tx 13 238 ?_
   refine tx 14 2 ?_
   clear hHeld
   refine wdn ?_
   have bb:=bz2
   have Bwz27_2:=bu Bw28 bb
   have swz27_2:=bb.size
   replace LA:=LA.up bb
   replace LB:=LB.up bb
   replace LJ:=LJ.up bb
   replace LC:=LC.up bb
   replace LP:=LP.up bb
   replace LD:=LD.up bb
   replace LX:=LX.up bb
   replace LG:=LG.up bb
   clear Bw28
   replace OA:=hide (OA.out.below bb)
   replace OB:=hide (OB.out.below bb)
   replace OJ:=hide (OJ.out.below bb)
   replace TP:=hide (TP.out.below bb)
   replace OP:=hide (OP.out.below bb)
   replace TT:=hide (TT.out.below bb)
   replace OX:=hide (OX.out.below bb)
   replace OG3:=hide (OG3.out.below bb)
   clear bb bz2 K
   go_wp2
   go_ret
   exact ⟨by simp, Bwz27_2⟩
 obtain ⟨cLA0,cLA1,cLA2⟩:=cc3 LA 0 1 2
 obtain ⟨cLB0,cLB1,cLB2⟩:=cc3 LB 0 1 2
 go_wp2_with fail
 refine (IJ2.out _ OA.out OB.out (GE.out _ Bw26) trivial).mono ?_
 rintro _ w27 ⟨ui, rfl, OI2, bb⟩
 clear cLA0 cLA1 cLA2 cLB0 cLB1 cLB2
 have Bw27:=bu Bw26 bb
 have sw27:=bb.size
 replace LA:=LA.up bb
 replace LB:=LB.up bb
 replace LJ:=LJ.up bb
 replace LC:=LC.up bb
 replace LP:=LP.up bb
 replace LD:=LD.up bb
 replace LX:=LX.up bb
 clear Bw26
 replace OA:=hide (OA.out.below bb)
 replace OB:=hide (OB.out.below bb)
 replace OJ:=hide (OJ.out.below bb)
 replace TP:=hide (TP.out.below bb)
 replace OP:=hide (OP.out.below bb)
 replace TT:=hide (TT.out.below bb)
 replace OX:=hide (OX.out.below bb)
 clear bb IJ2
 replace OI2:=OI.ri OI2 (by omega)
 obtain ⟨aI, cI, rfl⟩:=OI2.form
 replace OI2:=hide OI2
 go_upto_region 22 with fail
 obtain ⟨w28, hw28⟩ : ∃ y, w27.alloc (.cells #[.int .i64 jv,.string js,.slice aI (jl).length cI] 36) = y:=⟨_, rfl⟩
 have bb : Below w27.heap.size w27 w28:=hw28 ▸ qalloc _ _
 have LI : Loc w28 w27.heap.size #[.int .i64 jv,.string js,.slice aI (jl).length cI]:=hw28 ▸ loc_at w27 _ _ rfl
 have zw28 : w27.heap.size + 1 ≤ w28.heap.size:=by rw [← hw28]; simp
 rw [hw28]
 clear hw28
 have Bw28:=bu Bw27 bb
 have sw28:=bb.size
 replace LA:=LA.up bb
 replace LB:=LB.up bb
 replace LJ:=LJ.up bb
 replace LC:=LC.up bb
 replace LP:=LP.up bb
 replace LD:=LD.up bb
 replace LX:=LX.up bb
 clear Bw27
 replace OA:=hide (OA.out.below bb)
 replace OB:=hide (OB.out.below bb)
 replace OJ:=hide (OJ.out.below bb)
 replace TP:=hide (TP.out.below bb)
 replace OP:=hide (OP.out.below bb)
 replace TT:=hide (TT.out.below bb)
 replace OX:=hide (OX.out.below bb)
 replace OI2:=hide (OI2.out.below bb)
 clear bb
 obtain ⟨cLI0,cLI1,cLI2⟩:=cc3 LI 0 1 2
 obtain ⟨cLJ0,cLJ1,cLJ2⟩:=cc3 LJ 0 1 2
 go_wp2_with fail
 refine (samePart_yes jv js (.slice aI (jl).length cI) (.slice aJ (jl).length cJ) jl _ OI2.out OJ.out).mono ?_
 rintro _ w29 ⟨rfl, bb⟩
 clear cLI0 cLI1 cLI2 cLJ0 cLJ1 cLJ2
 have Bw29:=bu Bw28 bb
 have sw29:=bb.size
 replace LA:=LA.up bb
 replace LB:=LB.up bb
 replace LJ:=LJ.up bb
 replace LC:=LC.up bb
 replace LP:=LP.up bb
 replace LD:=LD.up bb
 replace LX:=LX.up bb
 replace LI:=LI.up bb
 clear Bw28
 replace OA:=hide (OA.out.below bb)
 replace OB:=hide (OB.out.below bb)
 replace OJ:=hide (OJ.out.below bb)
 replace TP:=hide (TP.out.below bb)
 replace OP:=hide (OP.out.below bb)
 replace TT:=hide (TT.out.below bb)
 replace OX:=hide (OX.out.below bb)
 replace OI2:=hide (OI2.out.below bb)
 clear bb
 as_aux_lemma =>
 cases put
 ·have hrt:=hide (AF.out.2 rfl)
  go_wp2_with fail
  refine (sameTable_yes (.slice aTT (rt).length cTT) (.slice aT (ps).length cT) ps _ (by omega) (by rw [← hrt.out]; exact TT.out) TP.out).mono ?_
  rintro _ w30 ⟨rfl, bb⟩
  have Bw30:=bu Bw29 bb
  have sw30:=bb.size
  replace LA:=LA.up bb
  replace LB:=LB.up bb
  replace LJ:=LJ.up bb
  replace LC:=LC.up bb
  replace LP:=LP.up bb
  replace LD:=LD.up bb
  replace LX:=LX.up bb
  replace LI:=LI.up bb
  clear Bw29
  replace OA:=hide (OA.out.below bb)
  replace OB:=hide (OB.out.below bb)
  replace OJ:=hide (OJ.out.below bb)
  replace TP:=hide (TP.out.below bb)
  replace OP:=hide (OP.out.below bb)
  replace TT:=hide (TT.out.below bb)
  replace OX:=hide (OX.out.below bb)
  replace OI2:=hide (OI2.out.below bb)
  clear bb
  go_wp2
  go_ret
  exact ⟨rfl, Bw30⟩
 obtain ⟨htk, hcm⟩:=AF.out.1 rfl
 have hgg:=hide (smp_get S2.out vp sp)
 have IG2:=hide fun w' (h : RPt w' (.slice aTT (rt).length cTT) rt) => implTableGet (.slice aTT (rt).length cTT) rt vp sp w' (by have:=HL3.out; omega) (by omega) (fun p hp => by have:=S2.out p hp; omega) h
 have HK:=hide htk
 have HC:=hide hcm
 clear htk hcm AF
 generalize getP rt vp sp = gg at *
 obtain ⟨cLP0,cLP1,cLP2⟩:=cc3 LP 0 1 2
 go_wp2_with fail
 refine (IG2.out _ TT.out).mono ?_
 rintro _ w30 ⟨ug3, rfl, OG3, bb⟩
 clear cLP0 cLP1 cLP2
 have Bw30:=bu Bw29 bb
 have sw30:=bb.size
 replace LA:=LA.up bb
 replace LB:=LB.up bb
 replace LJ:=LJ.up bb
 replace LC:=LC.up bb
 replace LP:=LP.up bb
 replace LD:=LD.up bb
 replace LX:=LX.up bb
 replace LI:=LI.up bb
 clear Bw29
 replace OA:=hide (OA.out.below bb)
 replace OB:=hide (OB.out.below bb)
 replace OJ:=hide (OJ.out.below bb)
 replace TP:=hide (TP.out.below bb)
 replace OP:=hide (OP.out.below bb)
 replace TT:=hide (TT.out.below bb)
 replace OX:=hide (OX.out.below bb)
 replace OI2:=hide (OI2.out.below bb)
 clear bb IG2
 replace OG3:=OI.ri OG3 (by have:=hgg.out; omega)
 obtain ⟨aG3, cG3, rfl⟩:=OG3.form
 replace OG3:=hide OG3
 go_upto_region 27 with fail
 obtain ⟨w31, hw31⟩ : ∃ y, w30.alloc (.cells #[.int .i64 gg.1,.string gg.2.1,.slice aG3 (gg.2.2).length cG3] 36) = y:=⟨_, rfl⟩
 have bb : Below w30.heap.size w30 w31:=hw31 ▸ qalloc _ _
 have LG : Loc w31 w30.heap.size #[.int .i64 gg.1,.string gg.2.1,.slice aG3 (gg.2.2).length cG3]:=hw31 ▸ loc_at w30 _ _ rfl
 have zw31 : w30.heap.size + 1 ≤ w31.heap.size:=by rw [← hw31]; simp
 rw [hw31]
 clear hw31
 have Bw31:=bu Bw30 bb
 have sw31:=bb.size
 replace LA:=LA.up bb
 replace LB:=LB.up bb
 replace LJ:=LJ.up bb
 replace LC:=LC.up bb
 replace LP:=LP.up bb
 replace LD:=LD.up bb
 replace LX:=LX.up bb
 replace LI:=LI.up bb
 clear Bw30
 replace OA:=hide (OA.out.below bb)
 replace OB:=hide (OB.out.below bb)
 replace OJ:=hide (OJ.out.below bb)
 replace TP:=hide (TP.out.below bb)
 replace OP:=hide (OP.out.below bb)
 replace TT:=hide (TT.out.below bb)
 replace OX:=hide (OX.out.below bb)
 replace OI2:=hide (OI2.out.below bb)
 replace OG3:=hide (OG3.out.below bb)
 clear bb
 have TK:=hide fun w' (hb : Below w31.heap.size w31 w') => implTableOk n f (.slice aTT (rt).length cTT) rt w' (by have:=HL3.out; omega) (fun p hp => by have:=S2.out p hp; omega) (HE.out w' (bu Bw31 hb)) (TT.out.below hb)
 rw [HK.out] at TK
 have CM:=hide fun w' (hb : Below w31.heap.size w31 w') => implCommon (.slice aP (xp).length cP) (.slice aG3 (gg.2.2).length cG3) xp gg.2.2 w' (OP.out.below hb) (OG3.out.below hb) hwp.out hgg.out.2
 rw [HC.out] at CM
 have eL : ((xp.length : Int) == (xp.length : Int)) = true:=by simp
 have eN : (xp.length == xp.length) = true:=by simp
 have K:=kw (ka (kc2 LC 0 1) (ka (kc3 LP 0 1 2) (kc3 LG 0 1 2)))
 refine wra K (fun bA hHeld => ?_)
 refine tx 0 225 ?_
 refine tx 1 226 ?_
 refine rd 2 rfl (fun KK hKK => ?_)
 go_simp
 have hgo:=bA
 refine (TK.out _ hgo).mono ?_
 rintro e wz27_1 ⟨rfl, bb⟩
 have bz1 : Below w31.heap.size w31 wz27_1:=bu bA bb
 clear bA hgo bb hHeld
 refine hKK.out _ _ (K.out _ bz1) (fun hHeld => ?_)
 clear hKK KK
 refine tx 3 228 ?_
 refine tx 4 229 ?_
 refine tx 6 231 ?_
 refine tx 9 234 ?_
 refine tx 5 230 ?_
 refine tx 7 232 ?_
 refine tx 10 235 ?_
 refine tx 11 236 ?_
 refine rd 8 rfl (fun KK hKK => ?_)
 go_simp
 have hgo:=bz1
 refine (CM.out _ hgo).mono ?_
 rintro e wz27_2 ⟨rfl, bb⟩
 have bz2 : Below w31.heap.size w31 wz27_2:=bu bz1 bb
 clear bz1 hgo bb hHeld
 refine hKK.out _ _ (K.out _ bz2) (fun hHeld => ?_)
 clear hKK KK
 refine tx 12 237 ?_
 refine tx 13 238 ?_
 refine tx 14 2 ?_
 clear hHeld
 refine wdn ?_
 have bb:=bz2
 have Bwz27_2:=bu Bw31 bb
 have swz27_2:=bb.size
 replace LA:=LA.up bb
 replace LB:=LB.up bb
 replace LJ:=LJ.up bb
 replace LC:=LC.up bb
 replace LP:=LP.up bb
 replace LD:=LD.up bb
 replace LX:=LX.up bb
 replace LI:=LI.up bb
 replace LG:=LG.up bb
 clear Bw31
 replace OA:=hide (OA.out.below bb)
 replace OB:=hide (OB.out.below bb)
 replace OJ:=hide (OJ.out.below bb)
 replace TP:=hide (TP.out.below bb)
 replace OP:=hide (OP.out.below bb)
 replace TT:=hide (TT.out.below bb)
 replace OX:=hide (OX.out.below bb)
 replace OI2:=hide (OI2.out.below bb)
 replace OG3:=hide (OG3.out.below bb)
 clear bb bz2 K
 go_wp2
 go_ret
 exact ⟨by simp, Bwz27_2⟩

theorem fnParts_long (ao : Option Addr) (n ca : Nat) (w : World) (h : 1048576 < n) (hm : n ≤ maxLen) :
 Calls Tryz.prog 4 #[.slice ao n ca] w fun e w' => e = .returned (.bool true) ∧ Below w.heap.size w w' := by
 have BG:=hide fun w => big_any ao n ca w (by unfold maxLen at hm; omega)
 rw [decide_eq_true h] at BG
 go_enter Tryz.func4, Tryz.ntmps4
 go_wp2_with fail
 refine (BG.out _).mono ?_
 rintro _ w1 ⟨rfl, b1⟩
 go_wp2
 go_ret
 exact ⟨rfl, b1⟩
theorem fnParts_walk (ao : Option Addr) (ca : Nat) (zs : List Int) (a : Addr) (w : World) (hm : zs.length ≤ maxLen) (hx : zs = [] ∨ ∃ b off, ao = some ⟨b, off, none⟩ ∧ ∀ k, k < zs.length → w.cell? ⟨b, off + k, none⟩ = some (.int .u8 (zs.getD k 0))) (hb : ∀ k, k < zs.length → 0 ≤ zs.getD k 0 ∧ zs.getD k 0 ≤ 255) (hE : Env w) (G : Gv w a) :
 Calls Tryz.prog 4 #[.slice ao zs.length ca] w fun e w' => e = .returned (.bool true) ∧ Below w.heap.size w w' := by
 by_cases h : zs.length ≤ 1048576
 ·exact fnParts_short ao ca zs a w ⟨h, hx, hb⟩ hE G
 exact fnParts_long ao zs.length ca w (by omega) hm
end
end Go.Proofs.YtjkcphnohhpihaaGreatDoor
