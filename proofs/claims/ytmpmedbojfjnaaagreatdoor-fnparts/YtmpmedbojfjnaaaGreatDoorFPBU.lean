/- The walk of laws.FnParts. -/
import Derived.Test.YtmpmedbojfjnaaaGreatDoorFPAS
import Derived.Test.YtmpmedbojfjnaaaGreatDoorFPAT
import Derived.Test.YtmpmedbojfjnaaaGreatDoorFPAZ
import Derived.Test.YtmpmedbojfjnaaaGreatDoorFPBA
import Derived.Test.YtmpmedbojfjnaaaGreatDoorFPBB
import Derived.Test.YtmpmedbojfjnaaaGreatDoorFPBK
import Derived.Test.YtmpmedbojfjnaaaGreatDoorFPBL
import Derived.Test.YtmpmedbojfjnaaaGreatDoorFPBE
import Derived.Test.YtmpmedbojfjnaaaGreatDoorFPAV
import Derived.Test.YtmpmedbojfjnaaaGreatDoorFPBS
import Derived.Test.YtmpmedbojfjnaaaGreatDoorFPAY
import Derived.Test.YtmpmedbojfjnaaaGreatDoorFPBT
import Derived.Test.YtmpmedbojfjnaaaGreatDoorFPBP
import Derived.Test.YtmpmedbojfjnaaaGreatDoorFPAN
import Derived.Test.YtmpmedbojfjnaaaGreatDoorFPBI
import Derived.Test.YtmpmedbojfjnaaaGreatDoorFPBD
import Derived.Deep.RegionHeld3
import Derived.Deep.DeepCutAuto
namespace Go.Proofs.YtmpmedbojfjnaaaGreatDoor
open Go.RowKit
set_option linter.unusedSectionVars false
variable [∀ (a b c d : Int), Decidable (Ok4 a b c d)]
variable [∀ (a b c d : Nat), Decidable (okN a b c d)]
variable [∀ (x : T4), Decidable (OkT x)]
variable [∀ (n f : Int), Decidable (COk n f)]
variable [∀ (last : Int) (s : St), Decidable (GoodSt last s)]
variable [∀ (n : Int) (s : List Int), Decidable (OkL n s)]

set_option maxHeartbeats 64000000 in
set_option maxRecDepth 100000 in
theorem fnParts_short (ao : Option Addr) (ca : Nat) (zs : List Int) (a : Addr) (w : World) (h : DCode w ao zs) (hE : Env w) (G : Gv w a) :
 Calls Tryz.prog 4 #[.slice ao zs.length ca] w fun e w' => e = .returned (.bool true) ∧ Below w.heap.size w w' := by
 have hz := h.len
 have BG := hide fun w => big_any ao zs.length ca w (by omega)
 rw [decide_eq_false (show ¬ 1048576 < zs.length by omega)] at BG
 have D1 := hide fun w' (hb : Below w.heap.size w w') => drawPartJoin ao ca zs w' (h.below hb (Nat.le_refl _))
 have D2 := hide fun w' (hb : Below w.heap.size w w') => drawTableAdd ao ca zs w' (h.below hb (Nat.le_refl _))
 have D3 := hide fun w' (hb : Below w.heap.size w w') => drawPartQc ao ca zs w' (h.below hb (Nat.le_refl _))
 have D4 := hide fun w' (hb : Below w.heap.size w w') => drawTableGet ao ca zs w' (h.below hb (Nat.le_refl _))
 have D5 := hide fun w' (hb : Below w.heap.size w w') => drawTableDrop ao ca zs w' (h.below hb (Nat.le_refl _))
 have D6 := hide fun w' (hb : Below w.heap.size w w') => drawTableOk ao ca zs w' (h.below hb (Nat.le_refl _))
 have D7 := hide fun w' (hb : Below w.heap.size w w') => drawPartOk ao ca zs w' (h.below hb (Nat.le_refl _))
 have HE := hide fun w' (hb : Below w.heap.size w w') => hE.below hb
 have GE := hide fun w' (hb : Below w.heap.size w w') => G.below hb G.lt
 generalize zs.length = zl at *
 clear h hE G
 go_enter Tryz.func4, Tryz.ntmps4
 have Bw : Below w.heap.size w w := Below.refl _ _
 go_wp2_with fail
 refine (unhide BG _).mono ?_
 rintro _ w1 ⟨rfl, bb⟩
 have Bw1 := Bw.trans (bb.mono Bw.size)
 have sw1 := bb.size
 clear Bw
 clear bb
 clear BG
 go_wp2_with fail
 refine (unhide D1 _ Bw1).mono ?_
 rintro _ w2 ⟨va, sa, ua, xa, vb, sb, ub, xb, rfl, hva, hsa, hla, hwa, hvb, hsb, hlb, hwb, OA, OB, bb⟩
 have Bw2 := Bw1.trans (bb.mono Bw1.size)
 have sw2 := bb.size
 clear Bw1
 clear bb
 clear D1
 replace OA := OI.ri OA (by omega)
 obtain ⟨aA, cA, rfl⟩ := OA.form
 replace OA := hide OA
 replace OB := OI.ri OB (by omega)
 obtain ⟨aB, cB, rfl⟩ := OB.form
 replace OB := hide OB
 have IJ := hide fun w' (h1 : RI w' (.slice aA (xa).length cA) xa) (h2 : RI w' (.slice aB (xb).length cB) xb) (G : Gv w' a) => implPartJoin va vb sa sb (.slice aA (xa).length cA) (.slice aB (xb).length cB) xa xb a w' (by omega) (by omega) (unhide hwa) (unhide hwb) h1 h2 G
 have SJ := hide fun w' (h1 : RI w' (.slice aA (xa).length cA) xa) (h2 : RI w' (.slice aB (xb).length cB) xb) => specPartJoin va vb sa sb (.slice aA (xa).length cA) (.slice aB (xb).length cB) xa xb w' (by omega) h1 h2
 have IJ2 := hide fun w' (h1 : RI w' (.slice aA (xa).length cA) xa) (h2 : RI w' (.slice aB (xb).length cB) xb) (G : Gv w' a) h => join_other va vb sa sb (.slice aA (xa).length cA) (.slice aB (xb).length cB) xa xb a w' (by omega) (by omega) (unhide hwa) (unhide hwb) h1 h2 G h
 have hjl : (if samP (va, sa, xa) (vb, sb, xb) = true then joinL xa xb else []).length ≤ 18 := if_len (by have := join_size xa xb; omega)
 generalize samP (va, sa, xa) (vb, sb, xb) = ok at *
 generalize (if ok = true then va else 0) = jv at *
 generalize (if ok = true then sa else ⟨#[]⟩) = js at *
 generalize (if ok = true then joinL xa xb else []) = jl at *
 go_upto_region 4 with fail
 obtain ⟨w3, hw3⟩ : ∃ y, (w2.alloc (.cells #[.int .i64 va, .string sa, .slice aA (xa).length cA] 52)).alloc (.cells #[.int .i64 vb, .string sb, .slice aB (xb).length cB] 52) = y := ⟨_, rfl⟩
 have bb : Below w2.heap.size w2 w3 := hw3 ▸ qalloc2 _ _ _
 have LA : Loc w3 w2.heap.size #[.int .i64 va, .string sa, .slice aA (xa).length cA] := hw3 ▸ (loc_at w2 _ _ rfl).alloc _
 have LB : Loc w3 (w2.heap.size + 1) #[.int .i64 vb, .string sb, .slice aB (xb).length cB] := hw3 ▸ loc_at (w2.alloc _) _ _ (by simp)
 have zw3 : w2.heap.size + 1 + 1 ≤ w3.heap.size := by rw [← hw3]; simp
 rw [hw3]
 clear hw3
 have Bw3 := Bw2.trans (bb.mono Bw2.size)
 have sw3 := bb.size
 clear Bw2
 replace OA := hide ((unhide OA).below bb (Nat.le_refl _))
 replace OB := hide ((unhide OB).below bb (Nat.le_refl _))
 clear bb
 have cLA0 := LA.cell 0 rfl
 have cLA1 := LA.cell 1 rfl
 have cLA2 := LA.cell 2 rfl
 have cLB0 := LB.cell 0 rfl
 have cLB1 := LB.cell 1 rfl
 have cLB2 := LB.cell 2 rfl
 go_wp2_with fail
 refine (unhide IJ _ (unhide OA) (unhide OB) (unhide GE _ Bw3)).mono ?_
 rintro _ w4 ⟨uj, rfl, OJ, bb⟩
 clear cLA0 cLA1 cLA2 cLB0 cLB1 cLB2
 have Bw4 := Bw3.trans (bb.mono Bw3.size)
 have sw4 := bb.size
 replace LA := LA.below bb LA.lt
 replace LB := LB.below bb LB.lt
 clear Bw3
 replace OA := hide ((unhide OA).below bb (Nat.le_refl _))
 replace OB := hide ((unhide OB).below bb (Nat.le_refl _))
 clear bb
 clear IJ
 replace OJ := OI.ri OJ (by omega)
 obtain ⟨aJ, cJ, rfl⟩ := OJ.form
 replace OJ := hide OJ
 go_upto_region 5 with fail
 obtain ⟨w5, hw5⟩ : ∃ y, w4.alloc (.cells #[.int .i64 jv, .string js, .slice aJ (jl).length cJ] 52) = y := ⟨_, rfl⟩
 have bb : Below w4.heap.size w4 w5 := hw5 ▸ qalloc _ _
 have LJ : Loc w5 w4.heap.size #[.int .i64 jv, .string js, .slice aJ (jl).length cJ] := hw5 ▸ loc_at w4 _ _ rfl
 have zw5 : w4.heap.size + 1 ≤ w5.heap.size := by rw [← hw5]; simp
 rw [hw5]
 clear hw5
 have Bw5 := Bw4.trans (bb.mono Bw4.size)
 have sw5 := bb.size
 replace LA := LA.below bb LA.lt
 replace LB := LB.below bb LB.lt
 clear Bw4
 replace OA := hide ((unhide OA).below bb (Nat.le_refl _))
 replace OB := hide ((unhide OB).below bb (Nat.le_refl _))
 replace OJ := hide ((unhide OJ).below bb (Nat.le_refl _))
 clear bb
 have cLA0 := LA.cell 0 rfl
 have cLA1 := LA.cell 1 rfl
 have cLA2 := LA.cell 2 rfl
 have cLB0 := LB.cell 0 rfl
 have cLB1 := LB.cell 1 rfl
 have cLB2 := LB.cell 2 rfl
 go_wp2_with fail
 refine (unhide SJ _ (unhide OA) (unhide OB)).mono ?_
 rintro _ w6 ⟨uk, rfl, OK, bb⟩
 clear cLA0 cLA1 cLA2 cLB0 cLB1 cLB2
 have Bw6 := Bw5.trans (bb.mono Bw5.size)
 have sw6 := bb.size
 replace LA := LA.below bb LA.lt
 replace LB := LB.below bb LB.lt
 replace LJ := LJ.below bb LJ.lt
 clear Bw5
 replace OA := hide ((unhide OA).below bb (Nat.le_refl _))
 replace OB := hide ((unhide OB).below bb (Nat.le_refl _))
 replace OJ := hide ((unhide OJ).below bb (Nat.le_refl _))
 clear bb
 clear SJ
 replace OK := OI.ri OK (by omega)
 obtain ⟨aK, cK, rfl⟩ := OK.form
 replace OK := hide OK
 go_upto_region 6 with fail
 obtain ⟨w7, hw7⟩ : ∃ y, w6.alloc (.cells #[.int .i64 jv, .string js, .slice aK (jl).length cK] 52) = y := ⟨_, rfl⟩
 have bb : Below w6.heap.size w6 w7 := hw7 ▸ qalloc _ _
 have LK : Loc w7 w6.heap.size #[.int .i64 jv, .string js, .slice aK (jl).length cK] := hw7 ▸ loc_at w6 _ _ rfl
 have zw7 : w6.heap.size + 1 ≤ w7.heap.size := by rw [← hw7]; simp
 rw [hw7]
 clear hw7
 have Bw7 := Bw6.trans (bb.mono Bw6.size)
 have sw7 := bb.size
 replace LA := LA.below bb LA.lt
 replace LB := LB.below bb LB.lt
 replace LJ := LJ.below bb LJ.lt
 clear Bw6
 replace OA := hide ((unhide OA).below bb (Nat.le_refl _))
 replace OB := hide ((unhide OB).below bb (Nat.le_refl _))
 replace OJ := hide ((unhide OJ).below bb (Nat.le_refl _))
 replace OK := hide ((unhide OK).below bb (Nat.le_refl _))
 clear bb
 go_wp2_with fail
 refine (unhide D2 _ Bw7).mono ?_
 rintro _ w8 ⟨n, f, tp, ps, vp, sp, up, xp, rfl, hpl, SMp, TP, hsp, hlp, hwp, OP, bb⟩
 have Bw8 := Bw7.trans (bb.mono Bw7.size)
 have sw8 := bb.size
 replace LA := LA.below bb LA.lt
 replace LB := LB.below bb LB.lt
 replace LJ := LJ.below bb LJ.lt
 replace LK := LK.below bb LK.lt
 clear Bw7
 replace OA := hide ((unhide OA).below bb (Nat.le_refl _))
 replace OB := hide ((unhide OB).below bb (Nat.le_refl _))
 replace OJ := hide ((unhide OJ).below bb (Nat.le_refl _))
 replace OK := hide ((unhide OK).below bb (Nat.le_refl _))
 clear bb
 clear D2
 have CP := hide TP.cap
 replace TP := TP.rpt (fun q hq => by have := unhide SMp q hq; omega)
 obtain ⟨aT, cT, rfl⟩ := TP.form
 replace TP := hide TP
 replace OP := OI.ri OP (by omega)
 obtain ⟨aP, cP, rfl⟩ := OP.form
 replace OP := hide OP
 have IA := hide fun w' (h1 : RPt w' (.slice aT (ps).length cT) ps) (h2 : RI w' (.slice aP (xp).length cP) xp) (hE : Env w') (G : Gv w' a) => implTableAdd n f (.slice aT (ps).length cT) ps vp sp (.slice aP (xp).length cP) xp a w' (by omega) (by omega) (by omega) (fun q hq => by have := unhide SMp q hq; exact ⟨by omega, by omega, this.2.2⟩) (unhide hwp) hE G h1 (unhide CP) h2
 have SA := hide fun w' (h1 : RPt w' (.slice aT (ps).length cT) ps) (h2 : RI w' (.slice aP (xp).length cP) xp) => specTableAdd n f (.slice aT (ps).length cT) ps vp sp (.slice aP (xp).length cP) xp w' (by omega) (by omega) (by omega) (fun q hq => by have := unhide SMp q hq; omega) h1 h2
 have AF := hide (add_facts (n := n) (f := f) (m := vp) (s := sp) (xs := xp) (ps := ps) _ rfl)
 have S2 := hide (smp_add9 (tokB n f (addP ps (vp, sp, xp)) && pokB n f vp sp xp) (b := 40) (v := vp) (unhide SMp) hsp hlp (unhide hwp))
 have HL2 : Hid (_ ≤ _) := hide (add_len_if (tokB n f (addP ps (vp, sp, xp)) && pokB n f vp sp xp) ps (vp, sp, xp))
 generalize (tokB n f (addP ps (vp, sp, xp)) && pokB n f vp sp xp) = put at *
 generalize (if put = true then addP ps (vp, sp, xp) else ps) = rt at *
 have HL3 : Hid (rt.length ≤ 6) := hide (by have := unhide HL2; omega)
 clear HL2 CP
 go_upto_region 7 with fail
 obtain ⟨w9, hw9⟩ : ∃ y, (w8.alloc (.cells #[.int .i64 n, .int .i64 f] 25)).alloc (.cells #[.int .i64 vp, .string sp, .slice aP (xp).length cP] 52) = y := ⟨_, rfl⟩
 have bb : Below w8.heap.size w8 w9 := hw9 ▸ qalloc2 _ _ _
 have LC : Loc w9 w8.heap.size #[.int .i64 n, .int .i64 f] := hw9 ▸ (loc_at w8 _ _ rfl).alloc _
 have LP : Loc w9 (w8.heap.size + 1) #[.int .i64 vp, .string sp, .slice aP (xp).length cP] := hw9 ▸ loc_at (w8.alloc _) _ _ (by simp)
 have zw9 : w8.heap.size + 1 + 1 ≤ w9.heap.size := by rw [← hw9]; simp
 rw [hw9]
 clear hw9
 have Bw9 := Bw8.trans (bb.mono Bw8.size)
 have sw9 := bb.size
 replace LA := LA.below bb LA.lt
 replace LB := LB.below bb LB.lt
 replace LJ := LJ.below bb LJ.lt
 replace LK := LK.below bb LK.lt
 clear Bw8
 replace OA := hide ((unhide OA).below bb (Nat.le_refl _))
 replace OB := hide ((unhide OB).below bb (Nat.le_refl _))
 replace OJ := hide ((unhide OJ).below bb (Nat.le_refl _))
 replace OK := hide ((unhide OK).below bb (Nat.le_refl _))
 replace TP := hide ((unhide TP).below bb (Nat.le_refl _))
 replace OP := hide ((unhide OP).below bb (Nat.le_refl _))
 clear bb
 have cLC0 := LC.cell 0 rfl
 have cLC1 := LC.cell 1 rfl
 have cLP0 := LP.cell 0 rfl
 have cLP1 := LP.cell 1 rfl
 have cLP2 := LP.cell 2 rfl
 go_wp2_with fail
 refine (unhide IA _ (unhide TP) (unhide OP) (unhide HE _ Bw9) (unhide GE _ Bw9)).mono ?_
 rintro _ w10 ⟨tt, rfl, TT, bb⟩
 clear cLC0 cLC1 cLP0 cLP1 cLP2
 have Bw10 := Bw9.trans (bb.mono Bw9.size)
 have sw10 := bb.size
 replace LA := LA.below bb LA.lt
 replace LB := LB.below bb LB.lt
 replace LJ := LJ.below bb LJ.lt
 replace LK := LK.below bb LK.lt
 replace LC := LC.below bb LC.lt
 replace LP := LP.below bb LP.lt
 clear Bw9
 replace OA := hide ((unhide OA).below bb (Nat.le_refl _))
 replace OB := hide ((unhide OB).below bb (Nat.le_refl _))
 replace OJ := hide ((unhide OJ).below bb (Nat.le_refl _))
 replace OK := hide ((unhide OK).below bb (Nat.le_refl _))
 replace TP := hide ((unhide TP).below bb (Nat.le_refl _))
 replace OP := hide ((unhide OP).below bb (Nat.le_refl _))
 clear bb
 clear IA
 replace TT := TT.rpt (fun q hq => by have := unhide S2 q hq; omega)
 obtain ⟨aTT, cTT, rfl⟩ := TT.form
 replace TT := hide TT
 have cLC0 := LC.cell 0 rfl
 have cLC1 := LC.cell 1 rfl
 have cLP0 := LP.cell 0 rfl
 have cLP1 := LP.cell 1 rfl
 have cLP2 := LP.cell 2 rfl
 go_wp2_with fail
 refine (unhide SA _ (unhide TP) (unhide OP)).mono ?_
 rintro _ w11 ⟨tu, rfl, TU, bb⟩
 clear cLC0 cLC1 cLP0 cLP1 cLP2
 have Bw11 := Bw10.trans (bb.mono Bw10.size)
 have sw11 := bb.size
 replace LA := LA.below bb LA.lt
 replace LB := LB.below bb LB.lt
 replace LJ := LJ.below bb LJ.lt
 replace LK := LK.below bb LK.lt
 replace LC := LC.below bb LC.lt
 replace LP := LP.below bb LP.lt
 clear Bw10
 replace OA := hide ((unhide OA).below bb (Nat.le_refl _))
 replace OB := hide ((unhide OB).below bb (Nat.le_refl _))
 replace OJ := hide ((unhide OJ).below bb (Nat.le_refl _))
 replace OK := hide ((unhide OK).below bb (Nat.le_refl _))
 replace TP := hide ((unhide TP).below bb (Nat.le_refl _))
 replace OP := hide ((unhide OP).below bb (Nat.le_refl _))
 replace TT := hide ((unhide TT).below bb (Nat.le_refl _))
 clear bb
 clear SA
 replace TU := TU.rpt (fun q hq => by have := unhide S2 q hq; omega)
 obtain ⟨aTU, cTU, rfl⟩ := TU.form
 replace TU := hide TU
 go_wp2_with fail
 refine (unhide D3 _ Bw11).mono ?_
 rintro _ w12 ⟨nd, fd, vq, sq, uq, xq, rfl, hnd, hfd, hvq, hsq, hlq, hwq, OQ, bb⟩
 have Bw12 := Bw11.trans (bb.mono Bw11.size)
 have sw12 := bb.size
 replace LA := LA.below bb LA.lt
 replace LB := LB.below bb LB.lt
 replace LJ := LJ.below bb LJ.lt
 replace LK := LK.below bb LK.lt
 replace LC := LC.below bb LC.lt
 replace LP := LP.below bb LP.lt
 clear Bw11
 replace OA := hide ((unhide OA).below bb (Nat.le_refl _))
 replace OB := hide ((unhide OB).below bb (Nat.le_refl _))
 replace OJ := hide ((unhide OJ).below bb (Nat.le_refl _))
 replace OK := hide ((unhide OK).below bb (Nat.le_refl _))
 replace TP := hide ((unhide TP).below bb (Nat.le_refl _))
 replace OP := hide ((unhide OP).below bb (Nat.le_refl _))
 replace TT := hide ((unhide TT).below bb (Nat.le_refl _))
 replace TU := hide ((unhide TU).below bb (Nat.le_refl _))
 clear bb
 clear D3
 replace OQ := OI.ri OQ (by omega)
 obtain ⟨aQ, cQ, rfl⟩ := OQ.form
 replace OQ := hide OQ
 have IQ := hide fun w' (h : RI w' (.slice aQ (xq).length cQ) xq) (hE : Env w') => implPartQc nd fd vq sq (.slice aQ (xq).length cQ) xq w' (by omega) hE h
 have SQ := hide fun w' (h : RI w' (.slice aQ (xq).length cQ) xq) => specPartQc nd fd vq sq (.slice aQ (xq).length cQ) xq w' (by omega) (by omega) h
 have QF := hide (qc_facts (n := nd) (f := fd) (m := vq) (s := sq) (xs := xq) _ rfl)
 have hyl : (if (decide (sq ≠ ⟨#[]⟩) && qokB nd fd vq sq xq) = true then xq else []).length ≤ 9 := if_len hlq
 have hys : (if (decide (sq ≠ ⟨#[]⟩) && qokB nd fd vq sq xq) = true then sq else ⟨#[]⟩).size ≤ 8001 := if_size hsq
 generalize (decide (sq ≠ ⟨#[]⟩) && qokB nd fd vq sq xq) = iz at *
 generalize (if iz = true then vq else 0) = yv at *
 generalize (if iz = true then sq else ⟨#[]⟩) = ys at *
 generalize (if iz = true then xq else []) = yl at *
 go_upto_region 10 with fail
 obtain ⟨w13, hw13⟩ : ∃ y, (w12.alloc (.cells #[.int .i64 nd, .int .i64 fd] 25)).alloc (.cells #[.int .i64 vq, .string sq, .slice aQ (xq).length cQ] 52) = y := ⟨_, rfl⟩
 have bb : Below w12.heap.size w12 w13 := hw13 ▸ qalloc2 _ _ _
 have LD : Loc w13 w12.heap.size #[.int .i64 nd, .int .i64 fd] := hw13 ▸ (loc_at w12 _ _ rfl).alloc _
 have LQ : Loc w13 (w12.heap.size + 1) #[.int .i64 vq, .string sq, .slice aQ (xq).length cQ] := hw13 ▸ loc_at (w12.alloc _) _ _ (by simp)
 have zw13 : w12.heap.size + 1 + 1 ≤ w13.heap.size := by rw [← hw13]; simp
 rw [hw13]
 clear hw13
 have Bw13 := Bw12.trans (bb.mono Bw12.size)
 have sw13 := bb.size
 replace LA := LA.below bb LA.lt
 replace LB := LB.below bb LB.lt
 replace LJ := LJ.below bb LJ.lt
 replace LK := LK.below bb LK.lt
 replace LC := LC.below bb LC.lt
 replace LP := LP.below bb LP.lt
 clear Bw12
 replace OA := hide ((unhide OA).below bb (Nat.le_refl _))
 replace OB := hide ((unhide OB).below bb (Nat.le_refl _))
 replace OJ := hide ((unhide OJ).below bb (Nat.le_refl _))
 replace OK := hide ((unhide OK).below bb (Nat.le_refl _))
 replace TP := hide ((unhide TP).below bb (Nat.le_refl _))
 replace OP := hide ((unhide OP).below bb (Nat.le_refl _))
 replace TT := hide ((unhide TT).below bb (Nat.le_refl _))
 replace TU := hide ((unhide TU).below bb (Nat.le_refl _))
 replace OQ := hide ((unhide OQ).below bb (Nat.le_refl _))
 clear bb
 have cLD0 := LD.cell 0 rfl
 have cLD1 := LD.cell 1 rfl
 have cLQ0 := LQ.cell 0 rfl
 have cLQ1 := LQ.cell 1 rfl
 have cLQ2 := LQ.cell 2 rfl
 go_wp2_with fail
 refine (unhide IQ _ (unhide OQ) (unhide HE _ Bw13)).mono ?_
 rintro _ w14 ⟨ux, rfl, OX, bb⟩
 clear cLD0 cLD1 cLQ0 cLQ1 cLQ2
 have Bw14 := Bw13.trans (bb.mono Bw13.size)
 have sw14 := bb.size
 replace LA := LA.below bb LA.lt
 replace LB := LB.below bb LB.lt
 replace LJ := LJ.below bb LJ.lt
 replace LK := LK.below bb LK.lt
 replace LC := LC.below bb LC.lt
 replace LP := LP.below bb LP.lt
 replace LD := LD.below bb LD.lt
 replace LQ := LQ.below bb LQ.lt
 clear Bw13
 replace OA := hide ((unhide OA).below bb (Nat.le_refl _))
 replace OB := hide ((unhide OB).below bb (Nat.le_refl _))
 replace OJ := hide ((unhide OJ).below bb (Nat.le_refl _))
 replace OK := hide ((unhide OK).below bb (Nat.le_refl _))
 replace TP := hide ((unhide TP).below bb (Nat.le_refl _))
 replace OP := hide ((unhide OP).below bb (Nat.le_refl _))
 replace TT := hide ((unhide TT).below bb (Nat.le_refl _))
 replace TU := hide ((unhide TU).below bb (Nat.le_refl _))
 replace OQ := hide ((unhide OQ).below bb (Nat.le_refl _))
 clear bb
 clear IQ
 replace OX := OI.ri OX (by omega)
 obtain ⟨aX, cX, rfl⟩ := OX.form
 replace OX := hide OX
 go_upto_region 11 with fail
 obtain ⟨w15, hw15⟩ : ∃ y, w14.alloc (.cells #[.int .i64 yv, .string ys, .slice aX (yl).length cX] 28) = y := ⟨_, rfl⟩
 have bb : Below w14.heap.size w14 w15 := hw15 ▸ qalloc _ _
 have LX : Loc w15 w14.heap.size #[.int .i64 yv, .string ys, .slice aX (yl).length cX] := hw15 ▸ loc_at w14 _ _ rfl
 have zw15 : w14.heap.size + 1 ≤ w15.heap.size := by rw [← hw15]; simp
 rw [hw15]
 clear hw15
 have Bw15 := Bw14.trans (bb.mono Bw14.size)
 have sw15 := bb.size
 replace LA := LA.below bb LA.lt
 replace LB := LB.below bb LB.lt
 replace LJ := LJ.below bb LJ.lt
 replace LK := LK.below bb LK.lt
 replace LC := LC.below bb LC.lt
 replace LP := LP.below bb LP.lt
 replace LD := LD.below bb LD.lt
 replace LQ := LQ.below bb LQ.lt
 clear Bw14
 replace OA := hide ((unhide OA).below bb (Nat.le_refl _))
 replace OB := hide ((unhide OB).below bb (Nat.le_refl _))
 replace OJ := hide ((unhide OJ).below bb (Nat.le_refl _))
 replace OK := hide ((unhide OK).below bb (Nat.le_refl _))
 replace TP := hide ((unhide TP).below bb (Nat.le_refl _))
 replace OP := hide ((unhide OP).below bb (Nat.le_refl _))
 replace TT := hide ((unhide TT).below bb (Nat.le_refl _))
 replace TU := hide ((unhide TU).below bb (Nat.le_refl _))
 replace OQ := hide ((unhide OQ).below bb (Nat.le_refl _))
 replace OX := hide ((unhide OX).below bb (Nat.le_refl _))
 clear bb
 have cLD0 := LD.cell 0 rfl
 have cLD1 := LD.cell 1 rfl
 have cLQ0 := LQ.cell 0 rfl
 have cLQ1 := LQ.cell 1 rfl
 have cLQ2 := LQ.cell 2 rfl
 go_wp2_with fail
 refine (unhide SQ _ (unhide OQ)).mono ?_
 rintro _ w16 ⟨uy, rfl, OY, bb⟩
 clear cLD0 cLD1 cLQ0 cLQ1 cLQ2
 have Bw16 := Bw15.trans (bb.mono Bw15.size)
 have sw16 := bb.size
 replace LA := LA.below bb LA.lt
 replace LB := LB.below bb LB.lt
 replace LJ := LJ.below bb LJ.lt
 replace LK := LK.below bb LK.lt
 replace LC := LC.below bb LC.lt
 replace LP := LP.below bb LP.lt
 replace LD := LD.below bb LD.lt
 replace LQ := LQ.below bb LQ.lt
 replace LX := LX.below bb LX.lt
 clear Bw15
 replace OA := hide ((unhide OA).below bb (Nat.le_refl _))
 replace OB := hide ((unhide OB).below bb (Nat.le_refl _))
 replace OJ := hide ((unhide OJ).below bb (Nat.le_refl _))
 replace OK := hide ((unhide OK).below bb (Nat.le_refl _))
 replace TP := hide ((unhide TP).below bb (Nat.le_refl _))
 replace OP := hide ((unhide OP).below bb (Nat.le_refl _))
 replace TT := hide ((unhide TT).below bb (Nat.le_refl _))
 replace TU := hide ((unhide TU).below bb (Nat.le_refl _))
 replace OQ := hide ((unhide OQ).below bb (Nat.le_refl _))
 replace OX := hide ((unhide OX).below bb (Nat.le_refl _))
 clear bb
 clear SQ
 replace OY := OI.ri OY (by omega)
 obtain ⟨aY, cY, rfl⟩ := OY.form
 replace OY := hide OY
 go_upto_region 12 with fail
 obtain ⟨w17, hw17⟩ : ∃ y, w16.alloc (.cells #[.int .i64 yv, .string ys, .slice aY (yl).length cY] 28) = y := ⟨_, rfl⟩
 have bb : Below w16.heap.size w16 w17 := hw17 ▸ qalloc _ _
 have LY : Loc w17 w16.heap.size #[.int .i64 yv, .string ys, .slice aY (yl).length cY] := hw17 ▸ loc_at w16 _ _ rfl
 have zw17 : w16.heap.size + 1 ≤ w17.heap.size := by rw [← hw17]; simp
 rw [hw17]
 clear hw17
 have Bw17 := Bw16.trans (bb.mono Bw16.size)
 have sw17 := bb.size
 replace LA := LA.below bb LA.lt
 replace LB := LB.below bb LB.lt
 replace LJ := LJ.below bb LJ.lt
 replace LK := LK.below bb LK.lt
 replace LC := LC.below bb LC.lt
 replace LP := LP.below bb LP.lt
 replace LD := LD.below bb LD.lt
 replace LQ := LQ.below bb LQ.lt
 replace LX := LX.below bb LX.lt
 clear Bw16
 replace OA := hide ((unhide OA).below bb (Nat.le_refl _))
 replace OB := hide ((unhide OB).below bb (Nat.le_refl _))
 replace OJ := hide ((unhide OJ).below bb (Nat.le_refl _))
 replace OK := hide ((unhide OK).below bb (Nat.le_refl _))
 replace TP := hide ((unhide TP).below bb (Nat.le_refl _))
 replace OP := hide ((unhide OP).below bb (Nat.le_refl _))
 replace TT := hide ((unhide TT).below bb (Nat.le_refl _))
 replace TU := hide ((unhide TU).below bb (Nat.le_refl _))
 replace OQ := hide ((unhide OQ).below bb (Nat.le_refl _))
 replace OX := hide ((unhide OX).below bb (Nat.le_refl _))
 replace OY := hide ((unhide OY).below bb (Nat.le_refl _))
 clear bb
 go_wp2_with fail
 refine (unhide D4 _ Bw17).mono ?_
 rintro _ w18 ⟨tl, ls, view, name, rfl, hll, SMl, hnm, TL, bb⟩
 have Bw18 := Bw17.trans (bb.mono Bw17.size)
 have sw18 := bb.size
 replace LA := LA.below bb LA.lt
 replace LB := LB.below bb LB.lt
 replace LJ := LJ.below bb LJ.lt
 replace LK := LK.below bb LK.lt
 replace LC := LC.below bb LC.lt
 replace LP := LP.below bb LP.lt
 replace LD := LD.below bb LD.lt
 replace LQ := LQ.below bb LQ.lt
 replace LX := LX.below bb LX.lt
 replace LY := LY.below bb LY.lt
 clear Bw17
 replace OA := hide ((unhide OA).below bb (Nat.le_refl _))
 replace OB := hide ((unhide OB).below bb (Nat.le_refl _))
 replace OJ := hide ((unhide OJ).below bb (Nat.le_refl _))
 replace OK := hide ((unhide OK).below bb (Nat.le_refl _))
 replace TP := hide ((unhide TP).below bb (Nat.le_refl _))
 replace OP := hide ((unhide OP).below bb (Nat.le_refl _))
 replace TT := hide ((unhide TT).below bb (Nat.le_refl _))
 replace TU := hide ((unhide TU).below bb (Nat.le_refl _))
 replace OQ := hide ((unhide OQ).below bb (Nat.le_refl _))
 replace OX := hide ((unhide OX).below bb (Nat.le_refl _))
 replace OY := hide ((unhide OY).below bb (Nat.le_refl _))
 clear bb
 clear D4
 replace TL := TL.rpt (fun q hq => by have := unhide SMl q hq; omega)
 obtain ⟨aL, cL, rfl⟩ := TL.form
 replace TL := hide TL
 have IG := hide fun w' (h : RPt w' (.slice aL (ls).length cL) ls) => implTableGet (.slice aL (ls).length cL) ls view name w' (by omega) (by omega) (fun p hp => by have := unhide SMl p hp; omega) h
 have SG := hide fun w' (h : RPt w' (.slice aL (ls).length cL) ls) => specTableGet (.slice aL (ls).length cL) ls view name w' (by omega) h
 have hgl := (smp_get (unhide SMl) view name).1
 generalize getP ls view name = gl at *
 go_wp2_with fail
 refine (unhide D5 _ Bw18).mono ?_
 rintro _ w19 ⟨tm, ms, fro, rfl, hml, SMm, TM, bb⟩
 have Bw19 := Bw18.trans (bb.mono Bw18.size)
 have sw19 := bb.size
 replace LA := LA.below bb LA.lt
 replace LB := LB.below bb LB.lt
 replace LJ := LJ.below bb LJ.lt
 replace LK := LK.below bb LK.lt
 replace LC := LC.below bb LC.lt
 replace LP := LP.below bb LP.lt
 replace LD := LD.below bb LD.lt
 replace LQ := LQ.below bb LQ.lt
 replace LX := LX.below bb LX.lt
 replace LY := LY.below bb LY.lt
 clear Bw18
 replace OA := hide ((unhide OA).below bb (Nat.le_refl _))
 replace OB := hide ((unhide OB).below bb (Nat.le_refl _))
 replace OJ := hide ((unhide OJ).below bb (Nat.le_refl _))
 replace OK := hide ((unhide OK).below bb (Nat.le_refl _))
 replace TP := hide ((unhide TP).below bb (Nat.le_refl _))
 replace OP := hide ((unhide OP).below bb (Nat.le_refl _))
 replace TT := hide ((unhide TT).below bb (Nat.le_refl _))
 replace TU := hide ((unhide TU).below bb (Nat.le_refl _))
 replace OQ := hide ((unhide OQ).below bb (Nat.le_refl _))
 replace OX := hide ((unhide OX).below bb (Nat.le_refl _))
 replace OY := hide ((unhide OY).below bb (Nat.le_refl _))
 replace TL := hide ((unhide TL).below bb (Nat.le_refl _))
 clear bb
 clear D5
 replace TM := TM.rpt (fun q hq => by have := unhide SMm q hq; omega)
 obtain ⟨aM, cM, rfl⟩ := TM.form
 replace TM := hide TM
 have ID := hide fun w' (h : RPt w' (.slice aM (ms).length cM) ms) => implTableDrop (.slice aM (ms).length cM) ms fro w' (by omega) (fun p hp => by have := unhide SMm p hp; omega) h
 have SD := hide fun w' (h : RPt w' (.slice aM (ms).length cM) ms) => specTableDrop (.slice aM (ms).length cM) ms fro w' (by omega) h
 have S3 := hide (smp_drop (unhide SMm) fro)
 have hdl : (dropP ms fro).length ≤ 5 := Nat.le_trans (List.length_filter_le _ _) hml
 generalize dropP ms fro = ds at *
 go_wp2_with fail
 refine (unhide D6 _ Bw19).mono ?_
 rintro _ w20 ⟨ne, fe, tov, os, rfl, hol, SMo, TO, bb⟩
 have Bw20 := Bw19.trans (bb.mono Bw19.size)
 have sw20 := bb.size
 replace LA := LA.below bb LA.lt
 replace LB := LB.below bb LB.lt
 replace LJ := LJ.below bb LJ.lt
 replace LK := LK.below bb LK.lt
 replace LC := LC.below bb LC.lt
 replace LP := LP.below bb LP.lt
 replace LD := LD.below bb LD.lt
 replace LQ := LQ.below bb LQ.lt
 replace LX := LX.below bb LX.lt
 replace LY := LY.below bb LY.lt
 clear Bw19
 replace OA := hide ((unhide OA).below bb (Nat.le_refl _))
 replace OB := hide ((unhide OB).below bb (Nat.le_refl _))
 replace OJ := hide ((unhide OJ).below bb (Nat.le_refl _))
 replace OK := hide ((unhide OK).below bb (Nat.le_refl _))
 replace TP := hide ((unhide TP).below bb (Nat.le_refl _))
 replace OP := hide ((unhide OP).below bb (Nat.le_refl _))
 replace TT := hide ((unhide TT).below bb (Nat.le_refl _))
 replace TU := hide ((unhide TU).below bb (Nat.le_refl _))
 replace OQ := hide ((unhide OQ).below bb (Nat.le_refl _))
 replace OX := hide ((unhide OX).below bb (Nat.le_refl _))
 replace OY := hide ((unhide OY).below bb (Nat.le_refl _))
 replace TL := hide ((unhide TL).below bb (Nat.le_refl _))
 replace TM := hide ((unhide TM).below bb (Nat.le_refl _))
 clear bb
 clear D6
 replace TO := TO.rpt (fun q hq => by have := unhide SMo q hq; omega)
 obtain ⟨aO, cO, rfl⟩ := TO.form
 replace TO := hide TO
 have IO := hide fun w' (h : RPt w' (.slice aO (os).length cO) os) (hE : Env w') => implTableOk ne fe (.slice aO (os).length cO) os w' (by omega) (fun p hp => by have := unhide SMo p hp; omega) hE h
 have SO := hide fun w' (h : RPt w' (.slice aO (os).length cO) os) => specTableOk ne fe (.slice aO (os).length cO) os w' (by omega) (fun p hp => by have := unhide SMo p hp; omega) h
 generalize tokB ne fe os = bo at IO SO
 go_upto_region 15 with fail
 obtain ⟨w21, hw21⟩ : ∃ y, w20.alloc (.cells #[.int .i64 ne, .int .i64 fe] 25) = y := ⟨_, rfl⟩
 have bb : Below w20.heap.size w20 w21 := hw21 ▸ qalloc _ _
 have LE : Loc w21 w20.heap.size #[.int .i64 ne, .int .i64 fe] := hw21 ▸ loc_at w20 _ _ rfl
 have zw21 : w20.heap.size + 1 ≤ w21.heap.size := by rw [← hw21]; simp
 rw [hw21]
 clear hw21
 have Bw21 := Bw20.trans (bb.mono Bw20.size)
 have sw21 := bb.size
 replace LA := LA.below bb LA.lt
 replace LB := LB.below bb LB.lt
 replace LJ := LJ.below bb LJ.lt
 replace LK := LK.below bb LK.lt
 replace LC := LC.below bb LC.lt
 replace LP := LP.below bb LP.lt
 replace LD := LD.below bb LD.lt
 replace LQ := LQ.below bb LQ.lt
 replace LX := LX.below bb LX.lt
 replace LY := LY.below bb LY.lt
 clear Bw20
 replace OA := hide ((unhide OA).below bb (Nat.le_refl _))
 replace OB := hide ((unhide OB).below bb (Nat.le_refl _))
 replace OJ := hide ((unhide OJ).below bb (Nat.le_refl _))
 replace OK := hide ((unhide OK).below bb (Nat.le_refl _))
 replace TP := hide ((unhide TP).below bb (Nat.le_refl _))
 replace OP := hide ((unhide OP).below bb (Nat.le_refl _))
 replace TT := hide ((unhide TT).below bb (Nat.le_refl _))
 replace TU := hide ((unhide TU).below bb (Nat.le_refl _))
 replace OQ := hide ((unhide OQ).below bb (Nat.le_refl _))
 replace OX := hide ((unhide OX).below bb (Nat.le_refl _))
 replace OY := hide ((unhide OY).below bb (Nat.le_refl _))
 replace TL := hide ((unhide TL).below bb (Nat.le_refl _))
 replace TM := hide ((unhide TM).below bb (Nat.le_refl _))
 replace TO := hide ((unhide TO).below bb (Nat.le_refl _))
 clear bb
 go_wp2_with fail
 refine (unhide D7 _ Bw21).mono ?_
 rintro _ w22 ⟨nr, fr, vr, sr, ur, xr, rfl, hvr, hsr, hlr, hwr, OR, bb⟩
 have Bw22 := Bw21.trans (bb.mono Bw21.size)
 have sw22 := bb.size
 replace LA := LA.below bb LA.lt
 replace LB := LB.below bb LB.lt
 replace LJ := LJ.below bb LJ.lt
 replace LK := LK.below bb LK.lt
 replace LC := LC.below bb LC.lt
 replace LP := LP.below bb LP.lt
 replace LD := LD.below bb LD.lt
 replace LQ := LQ.below bb LQ.lt
 replace LX := LX.below bb LX.lt
 replace LY := LY.below bb LY.lt
 replace LE := LE.below bb LE.lt
 clear Bw21
 replace OA := hide ((unhide OA).below bb (Nat.le_refl _))
 replace OB := hide ((unhide OB).below bb (Nat.le_refl _))
 replace OJ := hide ((unhide OJ).below bb (Nat.le_refl _))
 replace OK := hide ((unhide OK).below bb (Nat.le_refl _))
 replace TP := hide ((unhide TP).below bb (Nat.le_refl _))
 replace OP := hide ((unhide OP).below bb (Nat.le_refl _))
 replace TT := hide ((unhide TT).below bb (Nat.le_refl _))
 replace TU := hide ((unhide TU).below bb (Nat.le_refl _))
 replace OQ := hide ((unhide OQ).below bb (Nat.le_refl _))
 replace OX := hide ((unhide OX).below bb (Nat.le_refl _))
 replace OY := hide ((unhide OY).below bb (Nat.le_refl _))
 replace TL := hide ((unhide TL).below bb (Nat.le_refl _))
 replace TM := hide ((unhide TM).below bb (Nat.le_refl _))
 replace TO := hide ((unhide TO).below bb (Nat.le_refl _))
 clear bb
 clear D7
 replace OR := OI.ri OR (by omega)
 obtain ⟨aR, cR, rfl⟩ := OR.form
 replace OR := hide OR
 have IP := hide fun w' (h : RI w' (.slice aR (xr).length cR) xr) (hE : Env w') => implPartOk nr fr vr sr (.slice aR (xr).length cR) xr w' (by omega) hE h
 have SP := hide fun w' (h : RI w' (.slice aR (xr).length cR) xr) => specPartOk nr fr vr sr (.slice aR (xr).length cR) xr w' (by omega) h
 generalize pokB nr fr vr sr xr = bp at IP SP
 go_upto_region 16 with fail
 obtain ⟨w23, hw23⟩ : ∃ y, (w22.alloc (.cells #[.int .i64 nr, .int .i64 fr] 25)).alloc (.cells #[.int .i64 vr, .string sr, .slice aR (xr).length cR] 52) = y := ⟨_, rfl⟩
 have bb : Below w22.heap.size w22 w23 := hw23 ▸ qalloc2 _ _ _
 have LF : Loc w23 w22.heap.size #[.int .i64 nr, .int .i64 fr] := hw23 ▸ (loc_at w22 _ _ rfl).alloc _
 have LR : Loc w23 (w22.heap.size + 1) #[.int .i64 vr, .string sr, .slice aR (xr).length cR] := hw23 ▸ loc_at (w22.alloc _) _ _ (by simp)
 have zw23 : w22.heap.size + 1 + 1 ≤ w23.heap.size := by rw [← hw23]; simp
 rw [hw23]
 clear hw23
 have Bw23 := Bw22.trans (bb.mono Bw22.size)
 have sw23 := bb.size
 replace LA := LA.below bb LA.lt
 replace LB := LB.below bb LB.lt
 replace LJ := LJ.below bb LJ.lt
 replace LK := LK.below bb LK.lt
 replace LC := LC.below bb LC.lt
 replace LP := LP.below bb LP.lt
 replace LD := LD.below bb LD.lt
 replace LQ := LQ.below bb LQ.lt
 replace LX := LX.below bb LX.lt
 replace LY := LY.below bb LY.lt
 replace LE := LE.below bb LE.lt
 clear Bw22
 replace OA := hide ((unhide OA).below bb (Nat.le_refl _))
 replace OB := hide ((unhide OB).below bb (Nat.le_refl _))
 replace OJ := hide ((unhide OJ).below bb (Nat.le_refl _))
 replace OK := hide ((unhide OK).below bb (Nat.le_refl _))
 replace TP := hide ((unhide TP).below bb (Nat.le_refl _))
 replace OP := hide ((unhide OP).below bb (Nat.le_refl _))
 replace TT := hide ((unhide TT).below bb (Nat.le_refl _))
 replace TU := hide ((unhide TU).below bb (Nat.le_refl _))
 replace OQ := hide ((unhide OQ).below bb (Nat.le_refl _))
 replace OX := hide ((unhide OX).below bb (Nat.le_refl _))
 replace OY := hide ((unhide OY).below bb (Nat.le_refl _))
 replace TL := hide ((unhide TL).below bb (Nat.le_refl _))
 replace TM := hide ((unhide TM).below bb (Nat.le_refl _))
 replace TO := hide ((unhide TO).below bb (Nat.le_refl _))
 replace OR := hide ((unhide OR).below bb (Nat.le_refl _))
 clear bb
 as_aux_lemma =>
  have QS := hide fun w' (h1 : RI w' (.slice aX (yl).length cX) yl) (h2 : RI w' (.slice aY (yl).length cY) yl) => implQcSame yv yv ys ys (.slice aX (yl).length cX) (.slice aY (yl).length cY) yl yl w' h1 h2
  rw [alike_me] at QS
  have eok : (ok != ok) = false := by simp
  have eput : (put != put) = false := by simp
  have eiz : (iz != iz) = false := by simp
  have ebo : (bo != bo) = false := by simp
  have ebp : (bp != bp) = false := by simp
  have K : Hid (∀ w', Below w23.heap.size w23 w' → (fun w' => Below w23.heap.size w23 w' ∧ (w'.cell? ⟨w4.heap.size, 0, none⟩ = some (.int .i64 jv) ∧ w'.cell? ⟨w4.heap.size, 1, none⟩ = some (.string js) ∧ w'.cell? ⟨w4.heap.size, 2, none⟩ = some (.slice aJ (jl).length cJ)) ∧ (w'.cell? ⟨w6.heap.size, 0, none⟩ = some (.int .i64 jv) ∧ w'.cell? ⟨w6.heap.size, 1, none⟩ = some (.string js) ∧ w'.cell? ⟨w6.heap.size, 2, none⟩ = some (.slice aK (jl).length cK)) ∧ (w'.cell? ⟨w14.heap.size, 0, none⟩ = some (.int .i64 yv) ∧ w'.cell? ⟨w14.heap.size, 1, none⟩ = some (.string ys) ∧ w'.cell? ⟨w14.heap.size, 2, none⟩ = some (.slice aX (yl).length cX)) ∧ (w'.cell? ⟨w16.heap.size, 0, none⟩ = some (.int .i64 yv) ∧ w'.cell? ⟨w16.heap.size, 1, none⟩ = some (.string ys) ∧ w'.cell? ⟨w16.heap.size, 2, none⟩ = some (.slice aY (yl).length cY)) ∧ (w'.cell? ⟨w20.heap.size, 0, none⟩ = some (.int .i64 ne) ∧ w'.cell? ⟨w20.heap.size, 1, none⟩ = some (.int .i64 fe)) ∧ (w'.cell? ⟨w22.heap.size, 0, none⟩ = some (.int .i64 nr) ∧ w'.cell? ⟨w22.heap.size, 1, none⟩ = some (.int .i64 fr)) ∧ (w'.cell? ⟨w22.heap.size + 1, 0, none⟩ = some (.int .i64 vr) ∧ w'.cell? ⟨w22.heap.size + 1, 1, none⟩ = some (.string sr) ∧ w'.cell? ⟨w22.heap.size + 1, 2, none⟩ = some (.slice aR (xr).length cR))) w') := hide fun w' hb' => ⟨hb', ⟨(LJ.below hb' LJ.lt).cell 0 rfl, (LJ.below hb' LJ.lt).cell 1 rfl, (LJ.below hb' LJ.lt).cell 2 rfl⟩, ⟨(LK.below hb' LK.lt).cell 0 rfl, (LK.below hb' LK.lt).cell 1 rfl, (LK.below hb' LK.lt).cell 2 rfl⟩, ⟨(LX.below hb' LX.lt).cell 0 rfl, (LX.below hb' LX.lt).cell 1 rfl, (LX.below hb' LX.lt).cell 2 rfl⟩, ⟨(LY.below hb' LY.lt).cell 0 rfl, (LY.below hb' LY.lt).cell 1 rfl, (LY.below hb' LY.lt).cell 2 rfl⟩, ⟨(LE.below hb' LE.lt).cell 0 rfl, (LE.below hb' LE.lt).cell 1 rfl⟩, ⟨(LF.below hb' LF.lt).cell 0 rfl, (LF.below hb' LF.lt).cell 1 rfl⟩, ⟨(LR.below hb' LR.lt).cell 0 rfl, (LR.below hb' LR.lt).cell 1 rfl, (LR.below hb' LR.lt).cell 2 rfl⟩⟩
  have bA : Below w23.heap.size w23 w23.drew := Below.drew (Below.refl _ _)
  refine wp_region_noPanic ?_
  refine wp_region_held_drew (S := fun w' => Below w23.heap.size w23 w' ∧ (w'.cell? ⟨w4.heap.size, 0, none⟩ = some (.int .i64 jv) ∧ w'.cell? ⟨w4.heap.size, 1, none⟩ = some (.string js) ∧ w'.cell? ⟨w4.heap.size, 2, none⟩ = some (.slice aJ (jl).length cJ)) ∧ (w'.cell? ⟨w6.heap.size, 0, none⟩ = some (.int .i64 jv) ∧ w'.cell? ⟨w6.heap.size, 1, none⟩ = some (.string js) ∧ w'.cell? ⟨w6.heap.size, 2, none⟩ = some (.slice aK (jl).length cK)) ∧ (w'.cell? ⟨w14.heap.size, 0, none⟩ = some (.int .i64 yv) ∧ w'.cell? ⟨w14.heap.size, 1, none⟩ = some (.string ys) ∧ w'.cell? ⟨w14.heap.size, 2, none⟩ = some (.slice aX (yl).length cX)) ∧ (w'.cell? ⟨w16.heap.size, 0, none⟩ = some (.int .i64 yv) ∧ w'.cell? ⟨w16.heap.size, 1, none⟩ = some (.string ys) ∧ w'.cell? ⟨w16.heap.size, 2, none⟩ = some (.slice aY (yl).length cY)) ∧ (w'.cell? ⟨w20.heap.size, 0, none⟩ = some (.int .i64 ne) ∧ w'.cell? ⟨w20.heap.size, 1, none⟩ = some (.int .i64 fe)) ∧ (w'.cell? ⟨w22.heap.size, 0, none⟩ = some (.int .i64 nr) ∧ w'.cell? ⟨w22.heap.size, 1, none⟩ = some (.int .i64 fr)) ∧ (w'.cell? ⟨w22.heap.size + 1, 0, none⟩ = some (.int .i64 vr) ∧ w'.cell? ⟨w22.heap.size + 1, 1, none⟩ = some (.string sr) ∧ w'.cell? ⟨w22.heap.size + 1, 2, none⟩ = some (.slice aR (xr).length cR))) (by kernel_rfl) (unhide K _ bA) (fun hHeld => ?_)
  refine tk 0 111 (v := ?_) rfl (hy := .inl ⟨by rfl, ?_⟩) (h := ?_); rotate_left
  ·intro w hSw; (try dsimp only at hSw); go_simp; (try with_reducible rfl)
  simp only [pU]
  refine tk 1 112 (v := ?_) rfl (hy := .inl ⟨by rfl, ?_⟩) (h := ?_); rotate_left
  ·intro w hSw; (try dsimp only at hSw); go_simp; (try with_reducible rfl)
  simp only [pU]
  refine tk 2 113 (v := ?_) rfl (hy := .inl ⟨by rfl, ?_⟩) (h := ?_); rotate_left
  ·intro w hSw; (try dsimp only at hSw); go_simp; (try with_reducible rfl)
  simp only [pU]
  refine tk 3 114 (v := ?_) rfl (hy := .inl ⟨by rfl, ?_⟩) (h := ?_); rotate_left
  ·intro w hSw; (try dsimp only at hSw); go_simp; (try with_reducible rfl)
  simp only [pU]
  refine tk 4 115 (v := ?_) rfl (hy := .inl ⟨by rfl, ?_⟩) (h := ?_); rotate_left
  ·intro w hSw; (try dsimp only at hSw); go_simp; (try with_reducible rfl)
  simp only [pU]
  refine tk 5 116 (v := ?_) rfl (hy := .inl ⟨by rfl, ?_⟩) (h := ?_); rotate_left
  ·intro w hSw; (try dsimp only at hSw); go_simp; (try with_reducible rfl)
  simp only [pU]
  refine ready_at (i := 6) rfl (by kernel_rfl) (fun KK hKK => ?_)
  go_simp
  have hgo := bA
  refine (samePart_yes jv js (.slice aJ (jl).length cJ) (.slice aK (jl).length cK) jl _ ((unhide OJ).below hgo (Nat.le_refl _)) ((unhide OK).below hgo (Nat.le_refl _))).mono ?_
  rintro e wz16_1 ⟨rfl, bb⟩
  have bz1 : Below w23.heap.size w23 wz16_1 := bA.trans (bb.mono bA.size)
  clear bA hgo bb
  clear hHeld
  refine hKK.out _ _ (unhide K _ bz1) (fun hHeld => ?_)
  clear hKK KK
  refine tk 7 118 (v := ?_) rfl (hy := .inl ⟨by rfl, ?_⟩) (h := ?_); rotate_left
  ·intro w hSw; (try dsimp only at hSw); go_simp; (try with_reducible rfl)
  simp only [pU]
  refine tk 8 119 (v := ?_) rfl (hy := .inl ⟨by rfl, ?_⟩) (h := ?_); rotate_left
  ·intro w hSw; (try dsimp only at hSw); go_simp; (try with_reducible rfl)
  simp only [pU]
  refine tk 9 120 (v := ?_) rfl (hy := .inl ⟨by rfl, ?_⟩) (h := ?_); rotate_left
  ·intro w hSw; (try dsimp only at hSw); go_simp; (try with_reducible rfl)
  simp only [pU]
  refine tk 10 121 (v := ?_) rfl (hy := .inl ⟨by rfl, ?_⟩) (h := ?_); rotate_left
  ·intro w hSw; (try dsimp only at hSw); go_simp; (try with_reducible rfl)
  simp only [pU]
  refine tk 11 122 (v := ?_) rfl (hy := .inl ⟨by rfl, ?_⟩) (h := ?_); rotate_left
  ·intro w hSw; (try dsimp only at hSw); go_simp; (try with_reducible rfl)
  simp only [pU]
  refine tk 12 123 (v := ?_) rfl (hy := .inl ⟨by rfl, ?_⟩) (h := ?_); rotate_left
  ·intro w hSw; (try dsimp only at hSw); go_simp; (try with_reducible rfl)
  simp only [pU]
  refine tk 13 124 (v := ?_) rfl (hy := .inl ⟨by rfl, ?_⟩) (h := ?_); rotate_left
  ·intro w hSw; (try dsimp only at hSw); go_simp; (try with_reducible rfl)
  simp only [pU]
  refine tk 14 125 (v := ?_) rfl (hy := .inl ⟨by rfl, ?_⟩) (h := ?_); rotate_left
  ·intro w hSw; (try dsimp only at hSw); go_simp; (try with_reducible rfl)
  simp only [pU]
  refine tk 15 126 (v := ?_) rfl (hy := .inl ⟨by rfl, ?_⟩) (h := ?_); rotate_left
  ·intro w hSw; (try dsimp only at hSw); go_simp; (try with_reducible rfl)
  simp only [pU]
  refine tk 16 127 (v := ?_) rfl (hy := .inl ⟨by rfl, ?_⟩) (h := ?_); rotate_left
  ·intro w hSw; (try dsimp only at hSw); go_simp; (try with_reducible rfl)
  simp only [pU]
  refine ready_at (i := 17) rfl (by kernel_rfl) (fun KK hKK => ?_)
  go_simp
  have hgo := bz1
  refine (sameTable_yes (.slice aTT (rt).length cTT) (.slice aTU (rt).length cTU) rt _ (by have := unhide HL3; omega) ((unhide TT).below hgo (Nat.le_refl _)) ((unhide TU).below hgo (Nat.le_refl _))).mono ?_
  rintro e wz16_2 ⟨rfl, bb⟩
  have bz2 : Below w23.heap.size w23 wz16_2 := bz1.trans (bb.mono bz1.size)
  clear bz1 hgo bb
  clear hHeld
  refine hKK.out _ _ (unhide K _ bz2) (fun hHeld => ?_)
  clear hKK KK
  refine tk 18 129 (v := ?_) rfl (hy := .inl ⟨by rfl, ?_⟩) (h := ?_); rotate_left
  ·intro w hSw; (try dsimp only at hSw); go_simp; (try with_reducible rfl)
  simp only [pU]
  refine tk 19 130 (v := ?_) rfl (hy := .inl ⟨by rfl, ?_⟩) (h := ?_); rotate_left
  ·intro w hSw; (try dsimp only at hSw); go_simp; (try with_reducible rfl)
  simp only [pU]
  refine tk 20 131 (v := ?_) rfl (hy := .inl ⟨by rfl, ?_⟩) (h := ?_); rotate_left
  ·intro w hSw; (try dsimp only at hSw); go_simp; (try with_reducible rfl)
  simp only [pU]
  refine tk 21 132 (v := ?_) rfl (hy := .inl ⟨by rfl, ?_⟩) (h := ?_); rotate_left
  ·intro w hSw; (try dsimp only at hSw); go_simp; (try with_reducible rfl)
  simp only [pU]
  refine tk 22 133 (v := ?_) rfl (hy := .inl ⟨by rfl, ?_⟩) (h := ?_); rotate_left
  ·intro w hSw; (try dsimp only at hSw); go_simp; (try with_reducible rfl)
  simp only [pU]
  refine tk 23 134 (v := ?_) rfl (hy := .inl ⟨by rfl, ?_⟩) (h := ?_); rotate_left
  ·intro w hSw; (try dsimp only at hSw); go_simp; (try with_reducible rfl)
  simp only [pU]
  refine tk 24 135 (v := ?_) rfl (hy := .inl ⟨by rfl, ?_⟩) (h := ?_); rotate_left
  ·intro w hSw; (try dsimp only at hSw); go_simp; (try with_reducible rfl)
  simp only [pU]
  refine tk 25 136 (v := ?_) rfl (hy := .inl ⟨by rfl, ?_⟩) (h := ?_); rotate_left
  ·intro w hSw; (try dsimp only at hSw); go_simp; (try with_reducible rfl)
  simp only [pU]
  refine tk 26 137 (v := ?_) rfl (hy := .inl ⟨by rfl, ?_⟩) (h := ?_); rotate_left
  ·intro w hSw; (try dsimp only at hSw); go_simp; (try with_reducible rfl)
  simp only [pU]
  refine tk 27 138 (v := ?_) rfl (hy := .inl ⟨by rfl, ?_⟩) (h := ?_); rotate_left
  ·intro w hSw; (try dsimp only at hSw); go_simp; (try with_reducible rfl)
  simp only [pU]
  refine ready_at (i := 28) rfl (by kernel_rfl) (fun KK hKK => ?_)
  go_simp
  have hgo := bz2
  refine (unhide QS _ ((unhide OX).below hgo (Nat.le_refl _)) ((unhide OY).below hgo (Nat.le_refl _))).mono ?_
  rintro e wz16_3 ⟨rfl, bb⟩
  have bz3 : Below w23.heap.size w23 wz16_3 := bz2.trans (bb.mono bz2.size)
  clear bz2 hgo bb
  clear hHeld
  refine hKK.out _ _ (unhide K _ bz3) (fun hHeld => ?_)
  clear hKK KK
  refine tk 29 140 (v := ?_) rfl (hy := .inl ⟨by rfl, ?_⟩) (h := ?_); rotate_left
  ·intro w hSw; (try dsimp only at hSw); go_simp; (try with_reducible rfl)
  simp only [pU]
  refine tk 30 141 (v := ?_) rfl (hy := .inl ⟨by rfl, ?_⟩) (h := ?_); rotate_left
  ·intro w hSw; (try dsimp only at hSw); go_simp; (try with_reducible rfl)
  simp only [pU]
  refine tk 31 142 (v := ?_) rfl (hy := .inl ⟨by rfl, ?_⟩) (h := ?_); rotate_left
  ·intro w hSw; (try dsimp only at hSw); go_simp; (try with_reducible rfl)
  simp only [pU]
  refine tk 32 143 (v := ?_) rfl (hy := .inl ⟨by rfl, ?_⟩) (h := ?_); rotate_left
  ·intro w hSw; (try dsimp only at hSw); go_simp; (try with_reducible rfl)
  simp only [pU]
  refine tk 33 144 (v := ?_) rfl (hy := .inl ⟨by rfl, ?_⟩) (h := ?_); rotate_left
  ·intro w hSw; (try dsimp only at hSw); go_simp; (try with_reducible rfl)
  simp only [pU]
  refine tk 34 145 (v := ?_) rfl (hy := .inl ⟨by rfl, ?_⟩) (h := ?_); rotate_left
  ·intro w hSw; (try dsimp only at hSw); go_simp; (try with_reducible rfl)
  simp only [pU]
  refine tk 36 147 (v := ?_) rfl (hy := .inl ⟨by rfl, ?_⟩) (h := ?_); rotate_left
  ·intro w hSw; (try dsimp only at hSw); go_simp; (try with_reducible rfl)
  simp only [pU]
  refine tk 37 148 (v := ?_) rfl (hy := .inl ⟨by rfl, ?_⟩) (h := ?_); rotate_left
  ·intro w hSw; (try dsimp only at hSw); go_simp; (try with_reducible rfl)
  simp only [pU]
  refine tk 38 149 (v := ?_) rfl (hy := .inl ⟨by rfl, ?_⟩) (h := ?_); rotate_left
  ·intro w hSw; (try dsimp only at hSw); go_simp; (try with_reducible rfl)
  simp only [pU]
  refine ready_at (i := 35) rfl (by kernel_rfl) (fun KK hKK => ?_)
  go_simp
  have hgo := bz3
  refine (unhide IG _ ((unhide TL).below hgo (Nat.le_refl _))).mono ?_
  rintro e wz16_4 ⟨ug, rfl, OG, bb⟩
  have bz4 : Below w23.heap.size w23 wz16_4 := bz3.trans (bb.mono bz3.size)
  replace OG := OI.ri OG (by omega)
  obtain ⟨aG, cG, rfl⟩ := OG.form
  replace OG := hide OG
  clear bz3 hgo bb
  clear hHeld
  refine hKK.out _ _ (unhide K _ bz4) (fun hHeld => ?_)
  clear hKK KK
  refine ready_at (i := 39) rfl (by kernel_rfl) (fun KK hKK => ?_)
  go_simp
  have hgo := bz4
  refine (unhide SG _ ((unhide TL).below hgo (Nat.le_refl _))).mono ?_
  rintro e wz16_5 ⟨ug2, rfl, OG2, bb⟩
  have bz5 : Below w23.heap.size w23 wz16_5 := bz4.trans (bb.mono bz4.size)
  replace OG := hide ((unhide OG).below bb (Nat.le_refl _))
  replace OG2 := OI.ri OG2 (by omega)
  obtain ⟨aG2, cG2, rfl⟩ := OG2.form
  replace OG2 := hide OG2
  clear bz4 hgo bb
  clear hHeld
  refine hKK.out _ _ (unhide K _ bz5) (fun hHeld => ?_)
  clear hKK KK
  refine ready_at (i := 40) rfl (by kernel_rfl) (fun KK hKK => ?_)
  go_simp
  have hgo := bz5
  refine (samePart_yes gl.1 gl.2.1 (.slice aG gl.2.2.length cG) (.slice aG2 gl.2.2.length cG2) gl.2.2 _ (unhide OG) (unhide OG2)).mono ?_
  rintro e wz16_6 ⟨rfl, bb⟩
  have bz6 : Below w23.heap.size w23 wz16_6 := bz5.trans (bb.mono bz5.size)
  clear OG OG2
  clear bz5 hgo bb
  clear hHeld
  refine hKK.out _ _ (unhide K _ bz6) (fun hHeld => ?_)
  clear hKK KK
  refine tk 41 152 (v := ?_) rfl (hy := .inl ⟨by rfl, ?_⟩) (h := ?_); rotate_left
  ·intro w hSw; (try dsimp only at hSw); go_simp; (try with_reducible rfl)
  simp only [pU]
  refine tk 42 153 (v := ?_) rfl (hy := .inl ⟨by rfl, ?_⟩) (h := ?_); rotate_left
  ·intro w hSw; (try dsimp only at hSw); go_simp; (try with_reducible rfl)
  simp only [pU]
  refine tk 43 154 (v := ?_) rfl (hy := .inl ⟨by rfl, ?_⟩) (h := ?_); rotate_left
  ·intro w hSw; (try dsimp only at hSw); go_simp; (try with_reducible rfl)
  simp only [pU]
  refine tk 44 155 (v := ?_) rfl (hy := .inl ⟨by rfl, ?_⟩) (h := ?_); rotate_left
  ·intro w hSw; (try dsimp only at hSw); go_simp; (try with_reducible rfl)
  simp only [pU]
  refine tk 45 156 (v := ?_) rfl (hy := .inl ⟨by rfl, ?_⟩) (h := ?_); rotate_left
  ·intro w hSw; (try dsimp only at hSw); go_simp; (try with_reducible rfl)
  simp only [pU]
  refine tk 47 158 (v := ?_) rfl (hy := .inl ⟨by rfl, ?_⟩) (h := ?_); rotate_left
  ·intro w hSw; (try dsimp only at hSw); go_simp; (try with_reducible rfl)
  simp only [pU]
  refine tk 48 159 (v := ?_) rfl (hy := .inl ⟨by rfl, ?_⟩) (h := ?_); rotate_left
  ·intro w hSw; (try dsimp only at hSw); go_simp; (try with_reducible rfl)
  simp only [pU]
  refine ready_at (i := 46) rfl (by kernel_rfl) (fun KK hKK => ?_)
  go_simp
  have hgo := bz6
  refine (unhide ID _ ((unhide TM).below hgo (Nat.le_refl _))).mono ?_
  rintro e wz16_7 ⟨ud, rfl, TD, bb⟩
  have bz7 : Below w23.heap.size w23 wz16_7 := bz6.trans (bb.mono bz6.size)
  replace TD := TD.rpt (fun q hq => by have := unhide S3 q hq; omega)
  obtain ⟨aD, cD, rfl⟩ := TD.form
  replace TD := hide TD
  clear bz6 hgo bb
  clear hHeld
  refine hKK.out _ _ (unhide K _ bz7) (fun hHeld => ?_)
  clear hKK KK
  refine ready_at (i := 49) rfl (by kernel_rfl) (fun KK hKK => ?_)
  go_simp
  have hgo := bz7
  refine (unhide SD _ ((unhide TM).below hgo (Nat.le_refl _))).mono ?_
  rintro e wz16_8 ⟨ud2, rfl, TD2, bb⟩
  have bz8 : Below w23.heap.size w23 wz16_8 := bz7.trans (bb.mono bz7.size)
  replace TD := hide ((unhide TD).below bb (Nat.le_refl _))
  replace TD2 := TD2.rpt (fun q hq => by have := unhide S3 q hq; omega)
  obtain ⟨aD2, cD2, rfl⟩ := TD2.form
  replace TD2 := hide TD2
  clear bz7 hgo bb
  clear hHeld
  refine hKK.out _ _ (unhide K _ bz8) (fun hHeld => ?_)
  clear hKK KK
  refine ready_at (i := 50) rfl (by kernel_rfl) (fun KK hKK => ?_)
  go_simp
  have hgo := bz8
  refine (sameTable_yes (.slice aD ds.length cD) (.slice aD2 ds.length cD2) ds _ (by omega) (unhide TD) (unhide TD2)).mono ?_
  rintro e wz16_9 ⟨rfl, bb⟩
  have bz9 : Below w23.heap.size w23 wz16_9 := bz8.trans (bb.mono bz8.size)
  clear TD TD2
  clear bz8 hgo bb
  clear hHeld
  refine hKK.out _ _ (unhide K _ bz9) (fun hHeld => ?_)
  clear hKK KK
  refine tk 51 162 (v := ?_) rfl (hy := .inl ⟨by rfl, ?_⟩) (h := ?_); rotate_left
  ·intro w hSw; (try dsimp only at hSw); go_simp; (try with_reducible rfl)
  simp only [pU]
  refine tk 52 163 (v := ?_) rfl (hy := .inl ⟨by rfl, ?_⟩) (h := ?_); rotate_left
  ·intro w hSw; (try dsimp only at hSw); go_simp; (try with_reducible rfl)
  simp only [pU]
  refine tk 53 164 (v := ?_) rfl (hy := .inl ⟨by rfl, ?_⟩) (h := ?_); rotate_left
  ·intro w hSw; (try dsimp only at hSw); go_simp; (try with_reducible rfl)
  simp only [pU]
  refine tk 54 165 (v := ?_) rfl (hy := .inl ⟨by rfl, ?_⟩) (h := ?_); rotate_left
  ·intro w hSw; (try dsimp only at hSw); go_simp; (try with_reducible rfl)
  simp only [pU]
  refine tk 55 166 (v := ?_) rfl (hy := .inl ⟨by rfl, ?_⟩) (h := ?_); rotate_left
  ·intro w hSw; (try dsimp only at hSw); go_simp; (try with_reducible rfl)
  simp only [pU]
  refine tk 57 168 (v := ?_) rfl (hy := .inl ⟨by rfl, ?_⟩) (h := ?_); rotate_left
  ·intro w hSw; (try dsimp only at hSw); go_simp; (try with_reducible rfl)
  simp only [pU]
  refine tk 58 169 (v := ?_) rfl (hy := .inl ⟨by rfl, ?_⟩) (h := ?_); rotate_left
  ·intro w hSw; (try dsimp only at hSw); go_simp; (try with_reducible rfl)
  simp only [pU]
  refine ready_at (i := 56) rfl (by kernel_rfl) (fun KK hKK => ?_)
  go_simp
  have hgo := bz9
  refine (unhide IO _ ((unhide TO).below hgo (Nat.le_refl _)) (unhide HE _ (Bw23.trans (hgo.mono Bw23.size)))).mono ?_
  rintro e wz16_10 ⟨rfl, bb⟩
  have bz10 : Below w23.heap.size w23 wz16_10 := bz9.trans (bb.mono bz9.size)
  clear bz9 hgo bb
  clear hHeld
  refine hKK.out _ _ (unhide K _ bz10) (fun hHeld => ?_)
  clear hKK KK
  refine ready_at (i := 59) rfl (by kernel_rfl) (fun KK hKK => ?_)
  go_simp
  have hgo := bz10
  refine (unhide SO _ ((unhide TO).below hgo (Nat.le_refl _))).mono ?_
  rintro e wz16_11 ⟨rfl, bb⟩
  have bz11 : Below w23.heap.size w23 wz16_11 := bz10.trans (bb.mono bz10.size)
  clear bz10 hgo bb
  clear hHeld
  refine hKK.out _ _ (unhide K _ bz11) (fun hHeld => ?_)
  clear hKK KK
  refine tk 60 171 (v := ?_) rfl (hy := .inl ⟨by rfl, ?_⟩) (h := ?_); rotate_left
  ·intro w hSw; (try dsimp only at hSw); go_simp; (try with_reducible rfl)
  simp only [pU]
  refine tk 61 172 (v := ?_) rfl (hy := .inl ⟨by rfl, ?_⟩) (h := ?_); rotate_left
  ·intro w hSw; (try dsimp only at hSw); go_simp; (try with_reducible rfl)
  simp only [pU]
  refine tk 62 173 (v := ?_) rfl (hy := .inl ⟨by rfl, ?_⟩) (h := ?_); rotate_left
  ·intro w hSw; (try dsimp only at hSw); go_simp; (try with_reducible rfl)
  simp only [pU]
  refine tk 63 174 (v := ?_) rfl (hy := .inl ⟨by rfl, ?_⟩) (h := ?_); rotate_left
  ·intro w hSw; (try dsimp only at hSw); go_simp; (try with_reducible rfl)
  simp only [pU]
  refine tk 64 175 (v := ?_) rfl (hy := .inl ⟨by rfl, ?_⟩) (h := ?_); rotate_left
  ·intro w hSw; (try dsimp only at hSw); go_simp; (try with_reducible rfl)
  simp only [pU]
  refine tk 66 177 (v := ?_) rfl (hy := .inl ⟨by rfl, ?_⟩) (h := ?_); rotate_left
  ·intro w hSw; (try dsimp only at hSw); go_simp; (try with_reducible rfl)
  simp only [pU]
  refine tk 67 178 (v := ?_) rfl (hy := .inl ⟨by rfl, ?_⟩) (h := ?_); rotate_left
  ·intro w hSw; (try dsimp only at hSw); go_simp; (try with_reducible rfl)
  simp only [pU]
  refine ready_at (i := 65) rfl (by kernel_rfl) (fun KK hKK => ?_)
  go_simp
  have hgo := bz11
  refine (unhide IP _ ((unhide OR).below hgo (Nat.le_refl _)) (unhide HE _ (Bw23.trans (hgo.mono Bw23.size)))).mono ?_
  rintro e wz16_12 ⟨rfl, bb⟩
  have bz12 : Below w23.heap.size w23 wz16_12 := bz11.trans (bb.mono bz11.size)
  clear bz11 hgo bb
  clear hHeld
  refine hKK.out _ _ (unhide K _ bz12) (fun hHeld => ?_)
  clear hKK KK
  refine ready_at (i := 68) rfl (by kernel_rfl) (fun KK hKK => ?_)
  go_simp
  have hgo := bz12
  refine (unhide SP _ ((unhide OR).below hgo (Nat.le_refl _))).mono ?_
  rintro e wz16_13 ⟨rfl, bb⟩
  have bz13 : Below w23.heap.size w23 wz16_13 := bz12.trans (bb.mono bz12.size)
  clear bz12 hgo bb
  clear hHeld
  refine hKK.out _ _ (unhide K _ bz13) (fun hHeld => ?_)
  clear hKK KK
  refine tk 69 180 (v := ?_) rfl (hy := .inl ⟨by rfl, ?_⟩) (h := ?_); rotate_left
  ·intro w hSw; (try dsimp only at hSw); go_simp; (try with_reducible rfl)
  simp only [pU]
  refine tk 70 181 (v := ?_) rfl (hy := .inl ⟨by rfl, ?_⟩) (h := ?_); rotate_left
  ·intro w hSw; (try dsimp only at hSw); go_simp; (try with_reducible rfl)
  simp only [pU]
  clear hHeld
  refine wpAnyH_done (by kernel_rfl) ?_ _
  refine NoPanic.normal ?_
  have bb := bz13
  have Bwz16_13 := Bw23.trans (bb.mono Bw23.size)
  have swz16_13 := bb.size
  replace LA := LA.below bb LA.lt
  replace LB := LB.below bb LB.lt
  replace LJ := LJ.below bb LJ.lt
  replace LK := LK.below bb LK.lt
  replace LC := LC.below bb LC.lt
  replace LP := LP.below bb LP.lt
  replace LD := LD.below bb LD.lt
  replace LQ := LQ.below bb LQ.lt
  replace LX := LX.below bb LX.lt
  replace LY := LY.below bb LY.lt
  replace LE := LE.below bb LE.lt
  replace LF := LF.below bb LF.lt
  replace LR := LR.below bb LR.lt
  clear Bw23
  replace OA := hide ((unhide OA).below bb (Nat.le_refl _))
  replace OB := hide ((unhide OB).below bb (Nat.le_refl _))
  replace OJ := hide ((unhide OJ).below bb (Nat.le_refl _))
  replace OK := hide ((unhide OK).below bb (Nat.le_refl _))
  replace TP := hide ((unhide TP).below bb (Nat.le_refl _))
  replace OP := hide ((unhide OP).below bb (Nat.le_refl _))
  replace TT := hide ((unhide TT).below bb (Nat.le_refl _))
  replace TU := hide ((unhide TU).below bb (Nat.le_refl _))
  replace OQ := hide ((unhide OQ).below bb (Nat.le_refl _))
  replace OX := hide ((unhide OX).below bb (Nat.le_refl _))
  replace OY := hide ((unhide OY).below bb (Nat.le_refl _))
  replace TL := hide ((unhide TL).below bb (Nat.le_refl _))
  replace TM := hide ((unhide TM).below bb (Nat.le_refl _))
  replace TO := hide ((unhide TO).below bb (Nat.le_refl _))
  replace OR := hide ((unhide OR).below bb (Nat.le_refl _))
  clear bb bz13 K
  clear QS IG SG ID SD IO SO IP SP
  clear OK TU OY OQ TL TM TO OR
  clear LK LY LQ LE LF LR
  as_aux_lemma =>
   cases iz
   ·cases ok
    ·as_aux_lemma =>
      cases put
      ·have hrt := hide ((unhide AF).2 rfl)
       go_wp2_with fail
       refine (sameTable_yes (.slice aTT (rt).length cTT) (.slice aT (ps).length cT) ps _ (by omega) (by rw [← unhide hrt]; exact unhide TT) (unhide TP)).mono ?_
       rintro _ w24 ⟨rfl, bb⟩
       have Bw24 := Bwz16_13.trans (bb.mono Bwz16_13.size)
       have sw24 := bb.size
       replace LA := LA.below bb LA.lt
       replace LB := LB.below bb LB.lt
       replace LJ := LJ.below bb LJ.lt
       replace LC := LC.below bb LC.lt
       replace LP := LP.below bb LP.lt
       replace LD := LD.below bb LD.lt
       replace LX := LX.below bb LX.lt
       clear Bwz16_13
       replace OA := hide ((unhide OA).below bb (Nat.le_refl _))
       replace OB := hide ((unhide OB).below bb (Nat.le_refl _))
       replace OJ := hide ((unhide OJ).below bb (Nat.le_refl _))
       replace TP := hide ((unhide TP).below bb (Nat.le_refl _))
       replace OP := hide ((unhide OP).below bb (Nat.le_refl _))
       replace TT := hide ((unhide TT).below bb (Nat.le_refl _))
       replace OX := hide ((unhide OX).below bb (Nat.le_refl _))
       clear bb
       go_wp2
       go_ret
       exact ⟨rfl, Bw24⟩
      ·obtain ⟨htk, hcm⟩ := (unhide AF).1 rfl
       have hgg := hide (smp_get (unhide S2) vp sp)
       have IG2 := hide fun w' (h : RPt w' (.slice aTT (rt).length cTT) rt) => implTableGet (.slice aTT (rt).length cTT) rt vp sp w' (by have := unhide HL3; omega) (by omega) (fun p hp => by have := unhide S2 p hp; omega) h
       have HK := hide htk
       have HC := hide hcm
       clear htk hcm AF
       generalize getP rt vp sp = gg at *
       have cLP0 := LP.cell 0 rfl
       have cLP1 := LP.cell 1 rfl
       have cLP2 := LP.cell 2 rfl
       go_wp2_with fail
       refine (unhide IG2 _ (unhide TT)).mono ?_
       rintro _ w24 ⟨ug3, rfl, OG3, bb⟩
       clear cLP0 cLP1 cLP2
       have Bw24 := Bwz16_13.trans (bb.mono Bwz16_13.size)
       have sw24 := bb.size
       replace LA := LA.below bb LA.lt
       replace LB := LB.below bb LB.lt
       replace LJ := LJ.below bb LJ.lt
       replace LC := LC.below bb LC.lt
       replace LP := LP.below bb LP.lt
       replace LD := LD.below bb LD.lt
       replace LX := LX.below bb LX.lt
       clear Bwz16_13
       replace OA := hide ((unhide OA).below bb (Nat.le_refl _))
       replace OB := hide ((unhide OB).below bb (Nat.le_refl _))
       replace OJ := hide ((unhide OJ).below bb (Nat.le_refl _))
       replace TP := hide ((unhide TP).below bb (Nat.le_refl _))
       replace OP := hide ((unhide OP).below bb (Nat.le_refl _))
       replace TT := hide ((unhide TT).below bb (Nat.le_refl _))
       replace OX := hide ((unhide OX).below bb (Nat.le_refl _))
       clear bb
       clear IG2
       replace OG3 := OI.ri OG3 (by have := unhide hgg; omega)
       obtain ⟨aG3, cG3, rfl⟩ := OG3.form
       replace OG3 := hide OG3
       go_upto_region 27 with fail
       obtain ⟨w25, hw25⟩ : ∃ y, w24.alloc (.cells #[.int .i64 gg.1, .string gg.2.1, .slice aG3 (gg.2.2).length cG3] 52) = y := ⟨_, rfl⟩
       have bb : Below w24.heap.size w24 w25 := hw25 ▸ qalloc _ _
       have LG : Loc w25 w24.heap.size #[.int .i64 gg.1, .string gg.2.1, .slice aG3 (gg.2.2).length cG3] := hw25 ▸ loc_at w24 _ _ rfl
       have zw25 : w24.heap.size + 1 ≤ w25.heap.size := by rw [← hw25]; simp
       rw [hw25]
       clear hw25
       have Bw25 := Bw24.trans (bb.mono Bw24.size)
       have sw25 := bb.size
       replace LA := LA.below bb LA.lt
       replace LB := LB.below bb LB.lt
       replace LJ := LJ.below bb LJ.lt
       replace LC := LC.below bb LC.lt
       replace LP := LP.below bb LP.lt
       replace LD := LD.below bb LD.lt
       replace LX := LX.below bb LX.lt
       clear Bw24
       replace OA := hide ((unhide OA).below bb (Nat.le_refl _))
       replace OB := hide ((unhide OB).below bb (Nat.le_refl _))
       replace OJ := hide ((unhide OJ).below bb (Nat.le_refl _))
       replace TP := hide ((unhide TP).below bb (Nat.le_refl _))
       replace OP := hide ((unhide OP).below bb (Nat.le_refl _))
       replace TT := hide ((unhide TT).below bb (Nat.le_refl _))
       replace OX := hide ((unhide OX).below bb (Nat.le_refl _))
       replace OG3 := hide ((unhide OG3).below bb (Nat.le_refl _))
       clear bb
       have TK := hide fun w' (hb : Below w25.heap.size w25 w') => implTableOk n f (.slice aTT (rt).length cTT) rt w' (by have := unhide HL3; omega) (fun p hp => by have := unhide S2 p hp; omega) (unhide HE w' (Bw25.trans (hb.mono Bw25.size))) ((unhide TT).below hb (Nat.le_refl _))
       rw [unhide HK] at TK
       have CM := hide fun w' (hb : Below w25.heap.size w25 w') => implCommon (.slice aP (xp).length cP) (.slice aG3 (gg.2.2).length cG3) xp gg.2.2 w' ((unhide OP).below hb (Nat.le_refl _)) ((unhide OG3).below hb (Nat.le_refl _)) (unhide hwp) (unhide hgg).2
       rw [unhide HC] at CM
       have eL : ((xp.length : Int) == (xp.length : Int)) = true := by simp
       have eN : (xp.length == xp.length) = true := by simp
       have K : Hid (∀ w', Below w25.heap.size w25 w' → (fun w' => Below w25.heap.size w25 w' ∧ (w'.cell? ⟨w8.heap.size, 0, none⟩ = some (.int .i64 n) ∧ w'.cell? ⟨w8.heap.size, 1, none⟩ = some (.int .i64 f)) ∧ (w'.cell? ⟨w8.heap.size + 1, 0, none⟩ = some (.int .i64 vp) ∧ w'.cell? ⟨w8.heap.size + 1, 1, none⟩ = some (.string sp) ∧ w'.cell? ⟨w8.heap.size + 1, 2, none⟩ = some (.slice aP (xp).length cP)) ∧ (w'.cell? ⟨w24.heap.size, 0, none⟩ = some (.int .i64 gg.1) ∧ w'.cell? ⟨w24.heap.size, 1, none⟩ = some (.string gg.2.1) ∧ w'.cell? ⟨w24.heap.size, 2, none⟩ = some (.slice aG3 (gg.2.2).length cG3))) w') := hide fun w' hb' => ⟨hb', ⟨(LC.below hb' LC.lt).cell 0 rfl, (LC.below hb' LC.lt).cell 1 rfl⟩, ⟨(LP.below hb' LP.lt).cell 0 rfl, (LP.below hb' LP.lt).cell 1 rfl, (LP.below hb' LP.lt).cell 2 rfl⟩, ⟨(LG.below hb' LG.lt).cell 0 rfl, (LG.below hb' LG.lt).cell 1 rfl, (LG.below hb' LG.lt).cell 2 rfl⟩⟩
       have bA : Below w25.heap.size w25 w25.drew := Below.drew (Below.refl _ _)
       refine wp_region_noPanic ?_
       refine wp_region_held_drew (S := fun w' => Below w25.heap.size w25 w' ∧ (w'.cell? ⟨w8.heap.size, 0, none⟩ = some (.int .i64 n) ∧ w'.cell? ⟨w8.heap.size, 1, none⟩ = some (.int .i64 f)) ∧ (w'.cell? ⟨w8.heap.size + 1, 0, none⟩ = some (.int .i64 vp) ∧ w'.cell? ⟨w8.heap.size + 1, 1, none⟩ = some (.string sp) ∧ w'.cell? ⟨w8.heap.size + 1, 2, none⟩ = some (.slice aP (xp).length cP)) ∧ (w'.cell? ⟨w24.heap.size, 0, none⟩ = some (.int .i64 gg.1) ∧ w'.cell? ⟨w24.heap.size, 1, none⟩ = some (.string gg.2.1) ∧ w'.cell? ⟨w24.heap.size, 2, none⟩ = some (.slice aG3 (gg.2.2).length cG3))) (by kernel_rfl) (unhide K _ bA) (fun hHeld => ?_)
       refine tk 0 225 (v := ?_) rfl (hy := .inl ⟨by rfl, ?_⟩) (h := ?_); rotate_left
       ·intro w hSw; (try dsimp only at hSw); go_simp; (try with_reducible rfl)
       simp only [pU]
       refine tk 1 226 (v := ?_) rfl (hy := .inl ⟨by rfl, ?_⟩) (h := ?_); rotate_left
       ·intro w hSw; (try dsimp only at hSw); go_simp; (try with_reducible rfl)
       simp only [pU]
       refine ready_at (i := 2) rfl (by kernel_rfl) (fun KK hKK => ?_)
       go_simp
       have hgo := bA
       refine (unhide TK _ hgo).mono ?_
       rintro e wz27_1 ⟨rfl, bb⟩
       have bz1 : Below w25.heap.size w25 wz27_1 := bA.trans (bb.mono bA.size)
       clear bA hgo bb
       clear hHeld
       refine hKK.out _ _ (unhide K _ bz1) (fun hHeld => ?_)
       clear hKK KK
       refine tk 3 228 (v := ?_) rfl (hy := .inl ⟨by rfl, ?_⟩) (h := ?_); rotate_left
       ·intro w hSw; (try dsimp only at hSw); go_simp; (try with_reducible rfl)
       simp only [pU]
       refine tk 4 229 (v := ?_) rfl (hy := .inl ⟨by rfl, ?_⟩) (h := ?_); rotate_left
       ·intro w hSw; (try dsimp only at hSw); go_simp; (try with_reducible rfl)
       simp only [pU]
       refine tk 6 231 (v := ?_) rfl (hy := .inl ⟨by rfl, ?_⟩) (h := ?_); rotate_left
       ·intro w hSw; (try dsimp only at hSw); go_simp; (try with_reducible rfl)
       simp only [pU]
       refine tk 9 234 (v := ?_) rfl (hy := .inl ⟨by rfl, ?_⟩) (h := ?_); rotate_left
       ·intro w hSw; (try dsimp only at hSw); go_simp; (try with_reducible rfl)
       simp only [pU]
       refine tk 5 230 (v := ?_) rfl (hy := .inl ⟨by rfl, ?_⟩) (h := ?_); rotate_left
       ·intro w hSw; (try dsimp only at hSw); go_simp; (try with_reducible rfl)
       simp only [pU]
       refine tk 7 232 (v := ?_) rfl (hy := .inl ⟨by rfl, ?_⟩) (h := ?_); rotate_left
       ·intro w hSw; (try dsimp only at hSw); go_simp; (try with_reducible rfl)
       simp only [pU]
       refine tk 10 235 (v := ?_) rfl (hy := .inl ⟨by rfl, ?_⟩) (h := ?_); rotate_left
       ·intro w hSw; (try dsimp only at hSw); go_simp; (try with_reducible rfl)
       simp only [pU]
       refine tk 11 236 (v := ?_) rfl (hy := .inl ⟨by rfl, ?_⟩) (h := ?_); rotate_left
       ·intro w hSw; (try dsimp only at hSw); go_simp; (try with_reducible rfl)
       simp only [pU]
       refine ready_at (i := 8) rfl (by kernel_rfl) (fun KK hKK => ?_)
       go_simp
       have hgo := bz1
       refine (unhide CM _ hgo).mono ?_
       rintro e wz27_2 ⟨rfl, bb⟩
       have bz2 : Below w25.heap.size w25 wz27_2 := bz1.trans (bb.mono bz1.size)
       clear bz1 hgo bb
       clear hHeld
       refine hKK.out _ _ (unhide K _ bz2) (fun hHeld => ?_)
       clear hKK KK
       refine tk 12 237 (v := ?_) rfl (hy := .inl ⟨by rfl, ?_⟩) (h := ?_); rotate_left
       ·intro w hSw; (try dsimp only at hSw); go_simp; (try with_reducible rfl)
       simp only [pU]
       refine tk 13 238 (v := ?_) rfl (hy := .inl ⟨by rfl, ?_⟩) (h := ?_); rotate_left
       ·intro w hSw; (try dsimp only at hSw); go_simp; (try with_reducible rfl)
       simp only [pU]
       refine tk 14 2 (v := ?_) rfl (hy := .inl ⟨by rfl, ?_⟩) (h := ?_); rotate_left
       ·intro w hSw; (try dsimp only at hSw); go_simp; (try with_reducible rfl)
       simp only [pU]
       clear hHeld
       refine wpAnyH_done (by kernel_rfl) ?_ _
       refine NoPanic.normal ?_
       have bb := bz2
       have Bwz27_2 := Bw25.trans (bb.mono Bw25.size)
       have swz27_2 := bb.size
       replace LA := LA.below bb LA.lt
       replace LB := LB.below bb LB.lt
       replace LJ := LJ.below bb LJ.lt
       replace LC := LC.below bb LC.lt
       replace LP := LP.below bb LP.lt
       replace LD := LD.below bb LD.lt
       replace LX := LX.below bb LX.lt
       replace LG := LG.below bb LG.lt
       clear Bw25
       replace OA := hide ((unhide OA).below bb (Nat.le_refl _))
       replace OB := hide ((unhide OB).below bb (Nat.le_refl _))
       replace OJ := hide ((unhide OJ).below bb (Nat.le_refl _))
       replace TP := hide ((unhide TP).below bb (Nat.le_refl _))
       replace OP := hide ((unhide OP).below bb (Nat.le_refl _))
       replace TT := hide ((unhide TT).below bb (Nat.le_refl _))
       replace OX := hide ((unhide OX).below bb (Nat.le_refl _))
       replace OG3 := hide ((unhide OG3).below bb (Nat.le_refl _))
       clear bb bz2 K
       go_wp2
       go_ret
       exact ⟨by simp, Bwz27_2⟩
    ·have SA := hide fun w' (h : RI w' (.slice aA (xa).length cA) xa) => implSetOk 7 (.slice aA (xa).length cA) xa w' h
     have SB := hide fun w' (h : RI w' (.slice aB (xb).length cB) xb) => implSetOk 7 (.slice aB (xb).length cB) xb w' h
     generalize decide (OkL 7 xa) = ba at SA
     generalize decide (OkL 7 xb) = bb' at SB
     have cLA0 := LA.cell 0 rfl
     have cLA1 := LA.cell 1 rfl
     have cLA2 := LA.cell 2 rfl
     have cLB0 := LB.cell 0 rfl
     have cLB1 := LB.cell 1 rfl
     have cLB2 := LB.cell 2 rfl
     go_wp2_with fail
     refine (unhide SA _ (unhide OA)).mono ?_
     rintro _ w24 ⟨rfl, bb⟩
     clear cLA0 cLA1 cLA2 cLB0 cLB1 cLB2
     have Bw24 := Bwz16_13.trans (bb.mono Bwz16_13.size)
     have sw24 := bb.size
     replace LA := LA.below bb LA.lt
     replace LB := LB.below bb LB.lt
     replace LJ := LJ.below bb LJ.lt
     replace LC := LC.below bb LC.lt
     replace LP := LP.below bb LP.lt
     replace LD := LD.below bb LD.lt
     replace LX := LX.below bb LX.lt
     clear Bwz16_13
     replace OA := hide ((unhide OA).below bb (Nat.le_refl _))
     replace OB := hide ((unhide OB).below bb (Nat.le_refl _))
     replace OJ := hide ((unhide OJ).below bb (Nat.le_refl _))
     replace TP := hide ((unhide TP).below bb (Nat.le_refl _))
     replace OP := hide ((unhide OP).below bb (Nat.le_refl _))
     replace TT := hide ((unhide TT).below bb (Nat.le_refl _))
     replace OX := hide ((unhide OX).below bb (Nat.le_refl _))
     clear bb
     clear SA
     cases ba
     ·as_aux_lemma =>
       cases put
       ·have hrt := hide ((unhide AF).2 rfl)
        go_wp2_with fail
        refine (sameTable_yes (.slice aTT (rt).length cTT) (.slice aT (ps).length cT) ps _ (by omega) (by rw [← unhide hrt]; exact unhide TT) (unhide TP)).mono ?_
        rintro _ w25 ⟨rfl, bb⟩
        have Bw25 := Bw24.trans (bb.mono Bw24.size)
        have sw25 := bb.size
        replace LA := LA.below bb LA.lt
        replace LB := LB.below bb LB.lt
        replace LJ := LJ.below bb LJ.lt
        replace LC := LC.below bb LC.lt
        replace LP := LP.below bb LP.lt
        replace LD := LD.below bb LD.lt
        replace LX := LX.below bb LX.lt
        clear Bw24
        replace OA := hide ((unhide OA).below bb (Nat.le_refl _))
        replace OB := hide ((unhide OB).below bb (Nat.le_refl _))
        replace OJ := hide ((unhide OJ).below bb (Nat.le_refl _))
        replace TP := hide ((unhide TP).below bb (Nat.le_refl _))
        replace OP := hide ((unhide OP).below bb (Nat.le_refl _))
        replace TT := hide ((unhide TT).below bb (Nat.le_refl _))
        replace OX := hide ((unhide OX).below bb (Nat.le_refl _))
        clear bb
        go_wp2
        go_ret
        exact ⟨rfl, Bw25⟩
       ·obtain ⟨htk, hcm⟩ := (unhide AF).1 rfl
        have hgg := hide (smp_get (unhide S2) vp sp)
        have IG2 := hide fun w' (h : RPt w' (.slice aTT (rt).length cTT) rt) => implTableGet (.slice aTT (rt).length cTT) rt vp sp w' (by have := unhide HL3; omega) (by omega) (fun p hp => by have := unhide S2 p hp; omega) h
        have HK := hide htk
        have HC := hide hcm
        clear htk hcm AF
        generalize getP rt vp sp = gg at *
        have cLP0 := LP.cell 0 rfl
        have cLP1 := LP.cell 1 rfl
        have cLP2 := LP.cell 2 rfl
        go_wp2_with fail
        refine (unhide IG2 _ (unhide TT)).mono ?_
        rintro _ w25 ⟨ug3, rfl, OG3, bb⟩
        clear cLP0 cLP1 cLP2
        have Bw25 := Bw24.trans (bb.mono Bw24.size)
        have sw25 := bb.size
        replace LA := LA.below bb LA.lt
        replace LB := LB.below bb LB.lt
        replace LJ := LJ.below bb LJ.lt
        replace LC := LC.below bb LC.lt
        replace LP := LP.below bb LP.lt
        replace LD := LD.below bb LD.lt
        replace LX := LX.below bb LX.lt
        clear Bw24
        replace OA := hide ((unhide OA).below bb (Nat.le_refl _))
        replace OB := hide ((unhide OB).below bb (Nat.le_refl _))
        replace OJ := hide ((unhide OJ).below bb (Nat.le_refl _))
        replace TP := hide ((unhide TP).below bb (Nat.le_refl _))
        replace OP := hide ((unhide OP).below bb (Nat.le_refl _))
        replace TT := hide ((unhide TT).below bb (Nat.le_refl _))
        replace OX := hide ((unhide OX).below bb (Nat.le_refl _))
        clear bb
        clear IG2
        replace OG3 := OI.ri OG3 (by have := unhide hgg; omega)
        obtain ⟨aG3, cG3, rfl⟩ := OG3.form
        replace OG3 := hide OG3
        go_upto_region 27 with fail
        obtain ⟨w26, hw26⟩ : ∃ y, w25.alloc (.cells #[.int .i64 gg.1, .string gg.2.1, .slice aG3 (gg.2.2).length cG3] 52) = y := ⟨_, rfl⟩
        have bb : Below w25.heap.size w25 w26 := hw26 ▸ qalloc _ _
        have LG : Loc w26 w25.heap.size #[.int .i64 gg.1, .string gg.2.1, .slice aG3 (gg.2.2).length cG3] := hw26 ▸ loc_at w25 _ _ rfl
        have zw26 : w25.heap.size + 1 ≤ w26.heap.size := by rw [← hw26]; simp
        rw [hw26]
        clear hw26
        have Bw26 := Bw25.trans (bb.mono Bw25.size)
        have sw26 := bb.size
        replace LA := LA.below bb LA.lt
        replace LB := LB.below bb LB.lt
        replace LJ := LJ.below bb LJ.lt
        replace LC := LC.below bb LC.lt
        replace LP := LP.below bb LP.lt
        replace LD := LD.below bb LD.lt
        replace LX := LX.below bb LX.lt
        clear Bw25
        replace OA := hide ((unhide OA).below bb (Nat.le_refl _))
        replace OB := hide ((unhide OB).below bb (Nat.le_refl _))
        replace OJ := hide ((unhide OJ).below bb (Nat.le_refl _))
        replace TP := hide ((unhide TP).below bb (Nat.le_refl _))
        replace OP := hide ((unhide OP).below bb (Nat.le_refl _))
        replace TT := hide ((unhide TT).below bb (Nat.le_refl _))
        replace OX := hide ((unhide OX).below bb (Nat.le_refl _))
        replace OG3 := hide ((unhide OG3).below bb (Nat.le_refl _))
        clear bb
        have TK := hide fun w' (hb : Below w26.heap.size w26 w') => implTableOk n f (.slice aTT (rt).length cTT) rt w' (by have := unhide HL3; omega) (fun p hp => by have := unhide S2 p hp; omega) (unhide HE w' (Bw26.trans (hb.mono Bw26.size))) ((unhide TT).below hb (Nat.le_refl _))
        rw [unhide HK] at TK
        have CM := hide fun w' (hb : Below w26.heap.size w26 w') => implCommon (.slice aP (xp).length cP) (.slice aG3 (gg.2.2).length cG3) xp gg.2.2 w' ((unhide OP).below hb (Nat.le_refl _)) ((unhide OG3).below hb (Nat.le_refl _)) (unhide hwp) (unhide hgg).2
        rw [unhide HC] at CM
        have eL : ((xp.length : Int) == (xp.length : Int)) = true := by simp
        have eN : (xp.length == xp.length) = true := by simp
        have K : Hid (∀ w', Below w26.heap.size w26 w' → (fun w' => Below w26.heap.size w26 w' ∧ (w'.cell? ⟨w8.heap.size, 0, none⟩ = some (.int .i64 n) ∧ w'.cell? ⟨w8.heap.size, 1, none⟩ = some (.int .i64 f)) ∧ (w'.cell? ⟨w8.heap.size + 1, 0, none⟩ = some (.int .i64 vp) ∧ w'.cell? ⟨w8.heap.size + 1, 1, none⟩ = some (.string sp) ∧ w'.cell? ⟨w8.heap.size + 1, 2, none⟩ = some (.slice aP (xp).length cP)) ∧ (w'.cell? ⟨w25.heap.size, 0, none⟩ = some (.int .i64 gg.1) ∧ w'.cell? ⟨w25.heap.size, 1, none⟩ = some (.string gg.2.1) ∧ w'.cell? ⟨w25.heap.size, 2, none⟩ = some (.slice aG3 (gg.2.2).length cG3))) w') := hide fun w' hb' => ⟨hb', ⟨(LC.below hb' LC.lt).cell 0 rfl, (LC.below hb' LC.lt).cell 1 rfl⟩, ⟨(LP.below hb' LP.lt).cell 0 rfl, (LP.below hb' LP.lt).cell 1 rfl, (LP.below hb' LP.lt).cell 2 rfl⟩, ⟨(LG.below hb' LG.lt).cell 0 rfl, (LG.below hb' LG.lt).cell 1 rfl, (LG.below hb' LG.lt).cell 2 rfl⟩⟩
        have bA : Below w26.heap.size w26 w26.drew := Below.drew (Below.refl _ _)
        refine wp_region_noPanic ?_
        refine wp_region_held_drew (S := fun w' => Below w26.heap.size w26 w' ∧ (w'.cell? ⟨w8.heap.size, 0, none⟩ = some (.int .i64 n) ∧ w'.cell? ⟨w8.heap.size, 1, none⟩ = some (.int .i64 f)) ∧ (w'.cell? ⟨w8.heap.size + 1, 0, none⟩ = some (.int .i64 vp) ∧ w'.cell? ⟨w8.heap.size + 1, 1, none⟩ = some (.string sp) ∧ w'.cell? ⟨w8.heap.size + 1, 2, none⟩ = some (.slice aP (xp).length cP)) ∧ (w'.cell? ⟨w25.heap.size, 0, none⟩ = some (.int .i64 gg.1) ∧ w'.cell? ⟨w25.heap.size, 1, none⟩ = some (.string gg.2.1) ∧ w'.cell? ⟨w25.heap.size, 2, none⟩ = some (.slice aG3 (gg.2.2).length cG3))) (by kernel_rfl) (unhide K _ bA) (fun hHeld => ?_)
        refine tk 0 225 (v := ?_) rfl (hy := .inl ⟨by rfl, ?_⟩) (h := ?_); rotate_left
        ·intro w hSw; (try dsimp only at hSw); go_simp; (try with_reducible rfl)
        simp only [pU]
        refine tk 1 226 (v := ?_) rfl (hy := .inl ⟨by rfl, ?_⟩) (h := ?_); rotate_left
        ·intro w hSw; (try dsimp only at hSw); go_simp; (try with_reducible rfl)
        simp only [pU]
        refine ready_at (i := 2) rfl (by kernel_rfl) (fun KK hKK => ?_)
        go_simp
        have hgo := bA
        refine (unhide TK _ hgo).mono ?_
        rintro e wz27_1 ⟨rfl, bb⟩
        have bz1 : Below w26.heap.size w26 wz27_1 := bA.trans (bb.mono bA.size)
        clear bA hgo bb
        clear hHeld
        refine hKK.out _ _ (unhide K _ bz1) (fun hHeld => ?_)
        clear hKK KK
        refine tk 3 228 (v := ?_) rfl (hy := .inl ⟨by rfl, ?_⟩) (h := ?_); rotate_left
        ·intro w hSw; (try dsimp only at hSw); go_simp; (try with_reducible rfl)
        simp only [pU]
        refine tk 4 229 (v := ?_) rfl (hy := .inl ⟨by rfl, ?_⟩) (h := ?_); rotate_left
        ·intro w hSw; (try dsimp only at hSw); go_simp; (try with_reducible rfl)
        simp only [pU]
        refine tk 6 231 (v := ?_) rfl (hy := .inl ⟨by rfl, ?_⟩) (h := ?_); rotate_left
        ·intro w hSw; (try dsimp only at hSw); go_simp; (try with_reducible rfl)
        simp only [pU]
        refine tk 9 234 (v := ?_) rfl (hy := .inl ⟨by rfl, ?_⟩) (h := ?_); rotate_left
        ·intro w hSw; (try dsimp only at hSw); go_simp; (try with_reducible rfl)
        simp only [pU]
        refine tk 5 230 (v := ?_) rfl (hy := .inl ⟨by rfl, ?_⟩) (h := ?_); rotate_left
        ·intro w hSw; (try dsimp only at hSw); go_simp; (try with_reducible rfl)
        simp only [pU]
        refine tk 7 232 (v := ?_) rfl (hy := .inl ⟨by rfl, ?_⟩) (h := ?_); rotate_left
        ·intro w hSw; (try dsimp only at hSw); go_simp; (try with_reducible rfl)
        simp only [pU]
        refine tk 10 235 (v := ?_) rfl (hy := .inl ⟨by rfl, ?_⟩) (h := ?_); rotate_left
        ·intro w hSw; (try dsimp only at hSw); go_simp; (try with_reducible rfl)
        simp only [pU]
        refine tk 11 236 (v := ?_) rfl (hy := .inl ⟨by rfl, ?_⟩) (h := ?_); rotate_left
        ·intro w hSw; (try dsimp only at hSw); go_simp; (try with_reducible rfl)
        simp only [pU]
        refine ready_at (i := 8) rfl (by kernel_rfl) (fun KK hKK => ?_)
        go_simp
        have hgo := bz1
        refine (unhide CM _ hgo).mono ?_
        rintro e wz27_2 ⟨rfl, bb⟩
        have bz2 : Below w26.heap.size w26 wz27_2 := bz1.trans (bb.mono bz1.size)
        clear bz1 hgo bb
        clear hHeld
        refine hKK.out _ _ (unhide K _ bz2) (fun hHeld => ?_)
        clear hKK KK
        refine tk 12 237 (v := ?_) rfl (hy := .inl ⟨by rfl, ?_⟩) (h := ?_); rotate_left
        ·intro w hSw; (try dsimp only at hSw); go_simp; (try with_reducible rfl)
        simp only [pU]
        refine tk 13 238 (v := ?_) rfl (hy := .inl ⟨by rfl, ?_⟩) (h := ?_); rotate_left
        ·intro w hSw; (try dsimp only at hSw); go_simp; (try with_reducible rfl)
        simp only [pU]
        refine tk 14 2 (v := ?_) rfl (hy := .inl ⟨by rfl, ?_⟩) (h := ?_); rotate_left
        ·intro w hSw; (try dsimp only at hSw); go_simp; (try with_reducible rfl)
        simp only [pU]
        clear hHeld
        refine wpAnyH_done (by kernel_rfl) ?_ _
        refine NoPanic.normal ?_
        have bb := bz2
        have Bwz27_2 := Bw26.trans (bb.mono Bw26.size)
        have swz27_2 := bb.size
        replace LA := LA.below bb LA.lt
        replace LB := LB.below bb LB.lt
        replace LJ := LJ.below bb LJ.lt
        replace LC := LC.below bb LC.lt
        replace LP := LP.below bb LP.lt
        replace LD := LD.below bb LD.lt
        replace LX := LX.below bb LX.lt
        replace LG := LG.below bb LG.lt
        clear Bw26
        replace OA := hide ((unhide OA).below bb (Nat.le_refl _))
        replace OB := hide ((unhide OB).below bb (Nat.le_refl _))
        replace OJ := hide ((unhide OJ).below bb (Nat.le_refl _))
        replace TP := hide ((unhide TP).below bb (Nat.le_refl _))
        replace OP := hide ((unhide OP).below bb (Nat.le_refl _))
        replace TT := hide ((unhide TT).below bb (Nat.le_refl _))
        replace OX := hide ((unhide OX).below bb (Nat.le_refl _))
        replace OG3 := hide ((unhide OG3).below bb (Nat.le_refl _))
        clear bb bz2 K
        go_wp2
        go_ret
        exact ⟨by simp, Bwz27_2⟩
     ·have cLA0 := LA.cell 0 rfl
      have cLA1 := LA.cell 1 rfl
      have cLA2 := LA.cell 2 rfl
      have cLB0 := LB.cell 0 rfl
      have cLB1 := LB.cell 1 rfl
      have cLB2 := LB.cell 2 rfl
      go_wp2_with fail
      refine (unhide SB _ (unhide OB)).mono ?_
      rintro _ w25 ⟨rfl, bb⟩
      clear cLA0 cLA1 cLA2 cLB0 cLB1 cLB2
      have Bw25 := Bw24.trans (bb.mono Bw24.size)
      have sw25 := bb.size
      replace LA := LA.below bb LA.lt
      replace LB := LB.below bb LB.lt
      replace LJ := LJ.below bb LJ.lt
      replace LC := LC.below bb LC.lt
      replace LP := LP.below bb LP.lt
      replace LD := LD.below bb LD.lt
      replace LX := LX.below bb LX.lt
      clear Bw24
      replace OA := hide ((unhide OA).below bb (Nat.le_refl _))
      replace OB := hide ((unhide OB).below bb (Nat.le_refl _))
      replace OJ := hide ((unhide OJ).below bb (Nat.le_refl _))
      replace TP := hide ((unhide TP).below bb (Nat.le_refl _))
      replace OP := hide ((unhide OP).below bb (Nat.le_refl _))
      replace TT := hide ((unhide TT).below bb (Nat.le_refl _))
      replace OX := hide ((unhide OX).below bb (Nat.le_refl _))
      clear bb
      clear SB
      cases bb'
      ·as_aux_lemma =>
        cases put
        ·have hrt := hide ((unhide AF).2 rfl)
         go_wp2_with fail
         refine (sameTable_yes (.slice aTT (rt).length cTT) (.slice aT (ps).length cT) ps _ (by omega) (by rw [← unhide hrt]; exact unhide TT) (unhide TP)).mono ?_
         rintro _ w26 ⟨rfl, bb⟩
         have Bw26 := Bw25.trans (bb.mono Bw25.size)
         have sw26 := bb.size
         replace LA := LA.below bb LA.lt
         replace LB := LB.below bb LB.lt
         replace LJ := LJ.below bb LJ.lt
         replace LC := LC.below bb LC.lt
         replace LP := LP.below bb LP.lt
         replace LD := LD.below bb LD.lt
         replace LX := LX.below bb LX.lt
         clear Bw25
         replace OA := hide ((unhide OA).below bb (Nat.le_refl _))
         replace OB := hide ((unhide OB).below bb (Nat.le_refl _))
         replace OJ := hide ((unhide OJ).below bb (Nat.le_refl _))
         replace TP := hide ((unhide TP).below bb (Nat.le_refl _))
         replace OP := hide ((unhide OP).below bb (Nat.le_refl _))
         replace TT := hide ((unhide TT).below bb (Nat.le_refl _))
         replace OX := hide ((unhide OX).below bb (Nat.le_refl _))
         clear bb
         go_wp2
         go_ret
         exact ⟨rfl, Bw26⟩
        ·obtain ⟨htk, hcm⟩ := (unhide AF).1 rfl
         have hgg := hide (smp_get (unhide S2) vp sp)
         have IG2 := hide fun w' (h : RPt w' (.slice aTT (rt).length cTT) rt) => implTableGet (.slice aTT (rt).length cTT) rt vp sp w' (by have := unhide HL3; omega) (by omega) (fun p hp => by have := unhide S2 p hp; omega) h
         have HK := hide htk
         have HC := hide hcm
         clear htk hcm AF
         generalize getP rt vp sp = gg at *
         have cLP0 := LP.cell 0 rfl
         have cLP1 := LP.cell 1 rfl
         have cLP2 := LP.cell 2 rfl
         go_wp2_with fail
         refine (unhide IG2 _ (unhide TT)).mono ?_
         rintro _ w26 ⟨ug3, rfl, OG3, bb⟩
         clear cLP0 cLP1 cLP2
         have Bw26 := Bw25.trans (bb.mono Bw25.size)
         have sw26 := bb.size
         replace LA := LA.below bb LA.lt
         replace LB := LB.below bb LB.lt
         replace LJ := LJ.below bb LJ.lt
         replace LC := LC.below bb LC.lt
         replace LP := LP.below bb LP.lt
         replace LD := LD.below bb LD.lt
         replace LX := LX.below bb LX.lt
         clear Bw25
         replace OA := hide ((unhide OA).below bb (Nat.le_refl _))
         replace OB := hide ((unhide OB).below bb (Nat.le_refl _))
         replace OJ := hide ((unhide OJ).below bb (Nat.le_refl _))
         replace TP := hide ((unhide TP).below bb (Nat.le_refl _))
         replace OP := hide ((unhide OP).below bb (Nat.le_refl _))
         replace TT := hide ((unhide TT).below bb (Nat.le_refl _))
         replace OX := hide ((unhide OX).below bb (Nat.le_refl _))
         clear bb
         clear IG2
         replace OG3 := OI.ri OG3 (by have := unhide hgg; omega)
         obtain ⟨aG3, cG3, rfl⟩ := OG3.form
         replace OG3 := hide OG3
         go_upto_region 27 with fail
         obtain ⟨w27, hw27⟩ : ∃ y, w26.alloc (.cells #[.int .i64 gg.1, .string gg.2.1, .slice aG3 (gg.2.2).length cG3] 52) = y := ⟨_, rfl⟩
         have bb : Below w26.heap.size w26 w27 := hw27 ▸ qalloc _ _
         have LG : Loc w27 w26.heap.size #[.int .i64 gg.1, .string gg.2.1, .slice aG3 (gg.2.2).length cG3] := hw27 ▸ loc_at w26 _ _ rfl
         have zw27 : w26.heap.size + 1 ≤ w27.heap.size := by rw [← hw27]; simp
         rw [hw27]
         clear hw27
         have Bw27 := Bw26.trans (bb.mono Bw26.size)
         have sw27 := bb.size
         replace LA := LA.below bb LA.lt
         replace LB := LB.below bb LB.lt
         replace LJ := LJ.below bb LJ.lt
         replace LC := LC.below bb LC.lt
         replace LP := LP.below bb LP.lt
         replace LD := LD.below bb LD.lt
         replace LX := LX.below bb LX.lt
         clear Bw26
         replace OA := hide ((unhide OA).below bb (Nat.le_refl _))
         replace OB := hide ((unhide OB).below bb (Nat.le_refl _))
         replace OJ := hide ((unhide OJ).below bb (Nat.le_refl _))
         replace TP := hide ((unhide TP).below bb (Nat.le_refl _))
         replace OP := hide ((unhide OP).below bb (Nat.le_refl _))
         replace TT := hide ((unhide TT).below bb (Nat.le_refl _))
         replace OX := hide ((unhide OX).below bb (Nat.le_refl _))
         replace OG3 := hide ((unhide OG3).below bb (Nat.le_refl _))
         clear bb
         have TK := hide fun w' (hb : Below w27.heap.size w27 w') => implTableOk n f (.slice aTT (rt).length cTT) rt w' (by have := unhide HL3; omega) (fun p hp => by have := unhide S2 p hp; omega) (unhide HE w' (Bw27.trans (hb.mono Bw27.size))) ((unhide TT).below hb (Nat.le_refl _))
         rw [unhide HK] at TK
         have CM := hide fun w' (hb : Below w27.heap.size w27 w') => implCommon (.slice aP (xp).length cP) (.slice aG3 (gg.2.2).length cG3) xp gg.2.2 w' ((unhide OP).below hb (Nat.le_refl _)) ((unhide OG3).below hb (Nat.le_refl _)) (unhide hwp) (unhide hgg).2
         rw [unhide HC] at CM
         have eL : ((xp.length : Int) == (xp.length : Int)) = true := by simp
         have eN : (xp.length == xp.length) = true := by simp
         have K : Hid (∀ w', Below w27.heap.size w27 w' → (fun w' => Below w27.heap.size w27 w' ∧ (w'.cell? ⟨w8.heap.size, 0, none⟩ = some (.int .i64 n) ∧ w'.cell? ⟨w8.heap.size, 1, none⟩ = some (.int .i64 f)) ∧ (w'.cell? ⟨w8.heap.size + 1, 0, none⟩ = some (.int .i64 vp) ∧ w'.cell? ⟨w8.heap.size + 1, 1, none⟩ = some (.string sp) ∧ w'.cell? ⟨w8.heap.size + 1, 2, none⟩ = some (.slice aP (xp).length cP)) ∧ (w'.cell? ⟨w26.heap.size, 0, none⟩ = some (.int .i64 gg.1) ∧ w'.cell? ⟨w26.heap.size, 1, none⟩ = some (.string gg.2.1) ∧ w'.cell? ⟨w26.heap.size, 2, none⟩ = some (.slice aG3 (gg.2.2).length cG3))) w') := hide fun w' hb' => ⟨hb', ⟨(LC.below hb' LC.lt).cell 0 rfl, (LC.below hb' LC.lt).cell 1 rfl⟩, ⟨(LP.below hb' LP.lt).cell 0 rfl, (LP.below hb' LP.lt).cell 1 rfl, (LP.below hb' LP.lt).cell 2 rfl⟩, ⟨(LG.below hb' LG.lt).cell 0 rfl, (LG.below hb' LG.lt).cell 1 rfl, (LG.below hb' LG.lt).cell 2 rfl⟩⟩
         have bA : Below w27.heap.size w27 w27.drew := Below.drew (Below.refl _ _)
         refine wp_region_noPanic ?_
         refine wp_region_held_drew (S := fun w' => Below w27.heap.size w27 w' ∧ (w'.cell? ⟨w8.heap.size, 0, none⟩ = some (.int .i64 n) ∧ w'.cell? ⟨w8.heap.size, 1, none⟩ = some (.int .i64 f)) ∧ (w'.cell? ⟨w8.heap.size + 1, 0, none⟩ = some (.int .i64 vp) ∧ w'.cell? ⟨w8.heap.size + 1, 1, none⟩ = some (.string sp) ∧ w'.cell? ⟨w8.heap.size + 1, 2, none⟩ = some (.slice aP (xp).length cP)) ∧ (w'.cell? ⟨w26.heap.size, 0, none⟩ = some (.int .i64 gg.1) ∧ w'.cell? ⟨w26.heap.size, 1, none⟩ = some (.string gg.2.1) ∧ w'.cell? ⟨w26.heap.size, 2, none⟩ = some (.slice aG3 (gg.2.2).length cG3))) (by kernel_rfl) (unhide K _ bA) (fun hHeld => ?_)
         refine tk 0 225 (v := ?_) rfl (hy := .inl ⟨by rfl, ?_⟩) (h := ?_); rotate_left
         ·intro w hSw; (try dsimp only at hSw); go_simp; (try with_reducible rfl)
         simp only [pU]
         refine tk 1 226 (v := ?_) rfl (hy := .inl ⟨by rfl, ?_⟩) (h := ?_); rotate_left
         ·intro w hSw; (try dsimp only at hSw); go_simp; (try with_reducible rfl)
         simp only [pU]
         refine ready_at (i := 2) rfl (by kernel_rfl) (fun KK hKK => ?_)
         go_simp
         have hgo := bA
         refine (unhide TK _ hgo).mono ?_
         rintro e wz27_1 ⟨rfl, bb⟩
         have bz1 : Below w27.heap.size w27 wz27_1 := bA.trans (bb.mono bA.size)
         clear bA hgo bb
         clear hHeld
         refine hKK.out _ _ (unhide K _ bz1) (fun hHeld => ?_)
         clear hKK KK
         refine tk 3 228 (v := ?_) rfl (hy := .inl ⟨by rfl, ?_⟩) (h := ?_); rotate_left
         ·intro w hSw; (try dsimp only at hSw); go_simp; (try with_reducible rfl)
         simp only [pU]
         refine tk 4 229 (v := ?_) rfl (hy := .inl ⟨by rfl, ?_⟩) (h := ?_); rotate_left
         ·intro w hSw; (try dsimp only at hSw); go_simp; (try with_reducible rfl)
         simp only [pU]
         refine tk 6 231 (v := ?_) rfl (hy := .inl ⟨by rfl, ?_⟩) (h := ?_); rotate_left
         ·intro w hSw; (try dsimp only at hSw); go_simp; (try with_reducible rfl)
         simp only [pU]
         refine tk 9 234 (v := ?_) rfl (hy := .inl ⟨by rfl, ?_⟩) (h := ?_); rotate_left
         ·intro w hSw; (try dsimp only at hSw); go_simp; (try with_reducible rfl)
         simp only [pU]
         refine tk 5 230 (v := ?_) rfl (hy := .inl ⟨by rfl, ?_⟩) (h := ?_); rotate_left
         ·intro w hSw; (try dsimp only at hSw); go_simp; (try with_reducible rfl)
         simp only [pU]
         refine tk 7 232 (v := ?_) rfl (hy := .inl ⟨by rfl, ?_⟩) (h := ?_); rotate_left
         ·intro w hSw; (try dsimp only at hSw); go_simp; (try with_reducible rfl)
         simp only [pU]
         refine tk 10 235 (v := ?_) rfl (hy := .inl ⟨by rfl, ?_⟩) (h := ?_); rotate_left
         ·intro w hSw; (try dsimp only at hSw); go_simp; (try with_reducible rfl)
         simp only [pU]
         refine tk 11 236 (v := ?_) rfl (hy := .inl ⟨by rfl, ?_⟩) (h := ?_); rotate_left
         ·intro w hSw; (try dsimp only at hSw); go_simp; (try with_reducible rfl)
         simp only [pU]
         refine ready_at (i := 8) rfl (by kernel_rfl) (fun KK hKK => ?_)
         go_simp
         have hgo := bz1
         refine (unhide CM _ hgo).mono ?_
         rintro e wz27_2 ⟨rfl, bb⟩
         have bz2 : Below w27.heap.size w27 wz27_2 := bz1.trans (bb.mono bz1.size)
         clear bz1 hgo bb
         clear hHeld
         refine hKK.out _ _ (unhide K _ bz2) (fun hHeld => ?_)
         clear hKK KK
         refine tk 12 237 (v := ?_) rfl (hy := .inl ⟨by rfl, ?_⟩) (h := ?_); rotate_left
         ·intro w hSw; (try dsimp only at hSw); go_simp; (try with_reducible rfl)
         simp only [pU]
         refine tk 13 238 (v := ?_) rfl (hy := .inl ⟨by rfl, ?_⟩) (h := ?_); rotate_left
         ·intro w hSw; (try dsimp only at hSw); go_simp; (try with_reducible rfl)
         simp only [pU]
         refine tk 14 2 (v := ?_) rfl (hy := .inl ⟨by rfl, ?_⟩) (h := ?_); rotate_left
         ·intro w hSw; (try dsimp only at hSw); go_simp; (try with_reducible rfl)
         simp only [pU]
         clear hHeld
         refine wpAnyH_done (by kernel_rfl) ?_ _
         refine NoPanic.normal ?_
         have bb := bz2
         have Bwz27_2 := Bw27.trans (bb.mono Bw27.size)
         have swz27_2 := bb.size
         replace LA := LA.below bb LA.lt
         replace LB := LB.below bb LB.lt
         replace LJ := LJ.below bb LJ.lt
         replace LC := LC.below bb LC.lt
         replace LP := LP.below bb LP.lt
         replace LD := LD.below bb LD.lt
         replace LX := LX.below bb LX.lt
         replace LG := LG.below bb LG.lt
         clear Bw27
         replace OA := hide ((unhide OA).below bb (Nat.le_refl _))
         replace OB := hide ((unhide OB).below bb (Nat.le_refl _))
         replace OJ := hide ((unhide OJ).below bb (Nat.le_refl _))
         replace TP := hide ((unhide TP).below bb (Nat.le_refl _))
         replace OP := hide ((unhide OP).below bb (Nat.le_refl _))
         replace TT := hide ((unhide TT).below bb (Nat.le_refl _))
         replace OX := hide ((unhide OX).below bb (Nat.le_refl _))
         replace OG3 := hide ((unhide OG3).below bb (Nat.le_refl _))
         clear bb bz2 K
         go_wp2
         go_ret
         exact ⟨by simp, Bwz27_2⟩
      ·have cLA0 := LA.cell 0 rfl
       have cLA1 := LA.cell 1 rfl
       have cLA2 := LA.cell 2 rfl
       have cLB0 := LB.cell 0 rfl
       have cLB1 := LB.cell 1 rfl
       have cLB2 := LB.cell 2 rfl
       go_wp2_with fail
       refine (unhide IJ2 _ (unhide OA) (unhide OB) (unhide GE _ Bw25) trivial).mono ?_
       rintro _ w26 ⟨ui, rfl, OI2, bb⟩
       clear cLA0 cLA1 cLA2 cLB0 cLB1 cLB2
       have Bw26 := Bw25.trans (bb.mono Bw25.size)
       have sw26 := bb.size
       replace LA := LA.below bb LA.lt
       replace LB := LB.below bb LB.lt
       replace LJ := LJ.below bb LJ.lt
       replace LC := LC.below bb LC.lt
       replace LP := LP.below bb LP.lt
       replace LD := LD.below bb LD.lt
       replace LX := LX.below bb LX.lt
       clear Bw25
       replace OA := hide ((unhide OA).below bb (Nat.le_refl _))
       replace OB := hide ((unhide OB).below bb (Nat.le_refl _))
       replace OJ := hide ((unhide OJ).below bb (Nat.le_refl _))
       replace TP := hide ((unhide TP).below bb (Nat.le_refl _))
       replace OP := hide ((unhide OP).below bb (Nat.le_refl _))
       replace TT := hide ((unhide TT).below bb (Nat.le_refl _))
       replace OX := hide ((unhide OX).below bb (Nat.le_refl _))
       clear bb
       clear IJ2
       replace OI2 := OI.ri OI2 (by omega)
       obtain ⟨aI, cI, rfl⟩ := OI2.form
       replace OI2 := hide OI2
       go_upto_region 22 with fail
       obtain ⟨w27, hw27⟩ : ∃ y, w26.alloc (.cells #[.int .i64 jv, .string js, .slice aI (jl).length cI] 52) = y := ⟨_, rfl⟩
       have bb : Below w26.heap.size w26 w27 := hw27 ▸ qalloc _ _
       have LI : Loc w27 w26.heap.size #[.int .i64 jv, .string js, .slice aI (jl).length cI] := hw27 ▸ loc_at w26 _ _ rfl
       have zw27 : w26.heap.size + 1 ≤ w27.heap.size := by rw [← hw27]; simp
       rw [hw27]
       clear hw27
       have Bw27 := Bw26.trans (bb.mono Bw26.size)
       have sw27 := bb.size
       replace LA := LA.below bb LA.lt
       replace LB := LB.below bb LB.lt
       replace LJ := LJ.below bb LJ.lt
       replace LC := LC.below bb LC.lt
       replace LP := LP.below bb LP.lt
       replace LD := LD.below bb LD.lt
       replace LX := LX.below bb LX.lt
       clear Bw26
       replace OA := hide ((unhide OA).below bb (Nat.le_refl _))
       replace OB := hide ((unhide OB).below bb (Nat.le_refl _))
       replace OJ := hide ((unhide OJ).below bb (Nat.le_refl _))
       replace TP := hide ((unhide TP).below bb (Nat.le_refl _))
       replace OP := hide ((unhide OP).below bb (Nat.le_refl _))
       replace TT := hide ((unhide TT).below bb (Nat.le_refl _))
       replace OX := hide ((unhide OX).below bb (Nat.le_refl _))
       replace OI2 := hide ((unhide OI2).below bb (Nat.le_refl _))
       clear bb
       have cLI0 := LI.cell 0 rfl
       have cLI1 := LI.cell 1 rfl
       have cLI2 := LI.cell 2 rfl
       have cLJ0 := LJ.cell 0 rfl
       have cLJ1 := LJ.cell 1 rfl
       have cLJ2 := LJ.cell 2 rfl
       go_wp2_with fail
       refine (samePart_yes jv js (.slice aI (jl).length cI) (.slice aJ (jl).length cJ) jl _ (unhide OI2) (unhide OJ)).mono ?_
       rintro _ w28 ⟨rfl, bb⟩
       clear cLI0 cLI1 cLI2 cLJ0 cLJ1 cLJ2
       have Bw28 := Bw27.trans (bb.mono Bw27.size)
       have sw28 := bb.size
       replace LA := LA.below bb LA.lt
       replace LB := LB.below bb LB.lt
       replace LJ := LJ.below bb LJ.lt
       replace LC := LC.below bb LC.lt
       replace LP := LP.below bb LP.lt
       replace LD := LD.below bb LD.lt
       replace LX := LX.below bb LX.lt
       replace LI := LI.below bb LI.lt
       clear Bw27
       replace OA := hide ((unhide OA).below bb (Nat.le_refl _))
       replace OB := hide ((unhide OB).below bb (Nat.le_refl _))
       replace OJ := hide ((unhide OJ).below bb (Nat.le_refl _))
       replace TP := hide ((unhide TP).below bb (Nat.le_refl _))
       replace OP := hide ((unhide OP).below bb (Nat.le_refl _))
       replace TT := hide ((unhide TT).below bb (Nat.le_refl _))
       replace OX := hide ((unhide OX).below bb (Nat.le_refl _))
       replace OI2 := hide ((unhide OI2).below bb (Nat.le_refl _))
       clear bb
       as_aux_lemma =>
        cases put
        ·have hrt := hide ((unhide AF).2 rfl)
         go_wp2_with fail
         refine (sameTable_yes (.slice aTT (rt).length cTT) (.slice aT (ps).length cT) ps _ (by omega) (by rw [← unhide hrt]; exact unhide TT) (unhide TP)).mono ?_
         rintro _ w29 ⟨rfl, bb⟩
         have Bw29 := Bw28.trans (bb.mono Bw28.size)
         have sw29 := bb.size
         replace LA := LA.below bb LA.lt
         replace LB := LB.below bb LB.lt
         replace LJ := LJ.below bb LJ.lt
         replace LC := LC.below bb LC.lt
         replace LP := LP.below bb LP.lt
         replace LD := LD.below bb LD.lt
         replace LX := LX.below bb LX.lt
         replace LI := LI.below bb LI.lt
         clear Bw28
         replace OA := hide ((unhide OA).below bb (Nat.le_refl _))
         replace OB := hide ((unhide OB).below bb (Nat.le_refl _))
         replace OJ := hide ((unhide OJ).below bb (Nat.le_refl _))
         replace TP := hide ((unhide TP).below bb (Nat.le_refl _))
         replace OP := hide ((unhide OP).below bb (Nat.le_refl _))
         replace TT := hide ((unhide TT).below bb (Nat.le_refl _))
         replace OX := hide ((unhide OX).below bb (Nat.le_refl _))
         replace OI2 := hide ((unhide OI2).below bb (Nat.le_refl _))
         clear bb
         go_wp2
         go_ret
         exact ⟨rfl, Bw29⟩
        ·obtain ⟨htk, hcm⟩ := (unhide AF).1 rfl
         have hgg := hide (smp_get (unhide S2) vp sp)
         have IG2 := hide fun w' (h : RPt w' (.slice aTT (rt).length cTT) rt) => implTableGet (.slice aTT (rt).length cTT) rt vp sp w' (by have := unhide HL3; omega) (by omega) (fun p hp => by have := unhide S2 p hp; omega) h
         have HK := hide htk
         have HC := hide hcm
         clear htk hcm AF
         generalize getP rt vp sp = gg at *
         have cLP0 := LP.cell 0 rfl
         have cLP1 := LP.cell 1 rfl
         have cLP2 := LP.cell 2 rfl
         go_wp2_with fail
         refine (unhide IG2 _ (unhide TT)).mono ?_
         rintro _ w29 ⟨ug3, rfl, OG3, bb⟩
         clear cLP0 cLP1 cLP2
         have Bw29 := Bw28.trans (bb.mono Bw28.size)
         have sw29 := bb.size
         replace LA := LA.below bb LA.lt
         replace LB := LB.below bb LB.lt
         replace LJ := LJ.below bb LJ.lt
         replace LC := LC.below bb LC.lt
         replace LP := LP.below bb LP.lt
         replace LD := LD.below bb LD.lt
         replace LX := LX.below bb LX.lt
         replace LI := LI.below bb LI.lt
         clear Bw28
         replace OA := hide ((unhide OA).below bb (Nat.le_refl _))
         replace OB := hide ((unhide OB).below bb (Nat.le_refl _))
         replace OJ := hide ((unhide OJ).below bb (Nat.le_refl _))
         replace TP := hide ((unhide TP).below bb (Nat.le_refl _))
         replace OP := hide ((unhide OP).below bb (Nat.le_refl _))
         replace TT := hide ((unhide TT).below bb (Nat.le_refl _))
         replace OX := hide ((unhide OX).below bb (Nat.le_refl _))
         replace OI2 := hide ((unhide OI2).below bb (Nat.le_refl _))
         clear bb
         clear IG2
         replace OG3 := OI.ri OG3 (by have := unhide hgg; omega)
         obtain ⟨aG3, cG3, rfl⟩ := OG3.form
         replace OG3 := hide OG3
         go_upto_region 27 with fail
         obtain ⟨w30, hw30⟩ : ∃ y, w29.alloc (.cells #[.int .i64 gg.1, .string gg.2.1, .slice aG3 (gg.2.2).length cG3] 52) = y := ⟨_, rfl⟩
         have bb : Below w29.heap.size w29 w30 := hw30 ▸ qalloc _ _
         have LG : Loc w30 w29.heap.size #[.int .i64 gg.1, .string gg.2.1, .slice aG3 (gg.2.2).length cG3] := hw30 ▸ loc_at w29 _ _ rfl
         have zw30 : w29.heap.size + 1 ≤ w30.heap.size := by rw [← hw30]; simp
         rw [hw30]
         clear hw30
         have Bw30 := Bw29.trans (bb.mono Bw29.size)
         have sw30 := bb.size
         replace LA := LA.below bb LA.lt
         replace LB := LB.below bb LB.lt
         replace LJ := LJ.below bb LJ.lt
         replace LC := LC.below bb LC.lt
         replace LP := LP.below bb LP.lt
         replace LD := LD.below bb LD.lt
         replace LX := LX.below bb LX.lt
         replace LI := LI.below bb LI.lt
         clear Bw29
         replace OA := hide ((unhide OA).below bb (Nat.le_refl _))
         replace OB := hide ((unhide OB).below bb (Nat.le_refl _))
         replace OJ := hide ((unhide OJ).below bb (Nat.le_refl _))
         replace TP := hide ((unhide TP).below bb (Nat.le_refl _))
         replace OP := hide ((unhide OP).below bb (Nat.le_refl _))
         replace TT := hide ((unhide TT).below bb (Nat.le_refl _))
         replace OX := hide ((unhide OX).below bb (Nat.le_refl _))
         replace OI2 := hide ((unhide OI2).below bb (Nat.le_refl _))
         replace OG3 := hide ((unhide OG3).below bb (Nat.le_refl _))
         clear bb
         have TK := hide fun w' (hb : Below w30.heap.size w30 w') => implTableOk n f (.slice aTT (rt).length cTT) rt w' (by have := unhide HL3; omega) (fun p hp => by have := unhide S2 p hp; omega) (unhide HE w' (Bw30.trans (hb.mono Bw30.size))) ((unhide TT).below hb (Nat.le_refl _))
         rw [unhide HK] at TK
         have CM := hide fun w' (hb : Below w30.heap.size w30 w') => implCommon (.slice aP (xp).length cP) (.slice aG3 (gg.2.2).length cG3) xp gg.2.2 w' ((unhide OP).below hb (Nat.le_refl _)) ((unhide OG3).below hb (Nat.le_refl _)) (unhide hwp) (unhide hgg).2
         rw [unhide HC] at CM
         have eL : ((xp.length : Int) == (xp.length : Int)) = true := by simp
         have eN : (xp.length == xp.length) = true := by simp
         have K : Hid (∀ w', Below w30.heap.size w30 w' → (fun w' => Below w30.heap.size w30 w' ∧ (w'.cell? ⟨w8.heap.size, 0, none⟩ = some (.int .i64 n) ∧ w'.cell? ⟨w8.heap.size, 1, none⟩ = some (.int .i64 f)) ∧ (w'.cell? ⟨w8.heap.size + 1, 0, none⟩ = some (.int .i64 vp) ∧ w'.cell? ⟨w8.heap.size + 1, 1, none⟩ = some (.string sp) ∧ w'.cell? ⟨w8.heap.size + 1, 2, none⟩ = some (.slice aP (xp).length cP)) ∧ (w'.cell? ⟨w29.heap.size, 0, none⟩ = some (.int .i64 gg.1) ∧ w'.cell? ⟨w29.heap.size, 1, none⟩ = some (.string gg.2.1) ∧ w'.cell? ⟨w29.heap.size, 2, none⟩ = some (.slice aG3 (gg.2.2).length cG3))) w') := hide fun w' hb' => ⟨hb', ⟨(LC.below hb' LC.lt).cell 0 rfl, (LC.below hb' LC.lt).cell 1 rfl⟩, ⟨(LP.below hb' LP.lt).cell 0 rfl, (LP.below hb' LP.lt).cell 1 rfl, (LP.below hb' LP.lt).cell 2 rfl⟩, ⟨(LG.below hb' LG.lt).cell 0 rfl, (LG.below hb' LG.lt).cell 1 rfl, (LG.below hb' LG.lt).cell 2 rfl⟩⟩
         have bA : Below w30.heap.size w30 w30.drew := Below.drew (Below.refl _ _)
         refine wp_region_noPanic ?_
         refine wp_region_held_drew (S := fun w' => Below w30.heap.size w30 w' ∧ (w'.cell? ⟨w8.heap.size, 0, none⟩ = some (.int .i64 n) ∧ w'.cell? ⟨w8.heap.size, 1, none⟩ = some (.int .i64 f)) ∧ (w'.cell? ⟨w8.heap.size + 1, 0, none⟩ = some (.int .i64 vp) ∧ w'.cell? ⟨w8.heap.size + 1, 1, none⟩ = some (.string sp) ∧ w'.cell? ⟨w8.heap.size + 1, 2, none⟩ = some (.slice aP (xp).length cP)) ∧ (w'.cell? ⟨w29.heap.size, 0, none⟩ = some (.int .i64 gg.1) ∧ w'.cell? ⟨w29.heap.size, 1, none⟩ = some (.string gg.2.1) ∧ w'.cell? ⟨w29.heap.size, 2, none⟩ = some (.slice aG3 (gg.2.2).length cG3))) (by kernel_rfl) (unhide K _ bA) (fun hHeld => ?_)
         refine tk 0 225 (v := ?_) rfl (hy := .inl ⟨by rfl, ?_⟩) (h := ?_); rotate_left
         ·intro w hSw; (try dsimp only at hSw); go_simp; (try with_reducible rfl)
         simp only [pU]
         refine tk 1 226 (v := ?_) rfl (hy := .inl ⟨by rfl, ?_⟩) (h := ?_); rotate_left
         ·intro w hSw; (try dsimp only at hSw); go_simp; (try with_reducible rfl)
         simp only [pU]
         refine ready_at (i := 2) rfl (by kernel_rfl) (fun KK hKK => ?_)
         go_simp
         have hgo := bA
         refine (unhide TK _ hgo).mono ?_
         rintro e wz27_1 ⟨rfl, bb⟩
         have bz1 : Below w30.heap.size w30 wz27_1 := bA.trans (bb.mono bA.size)
         clear bA hgo bb
         clear hHeld
         refine hKK.out _ _ (unhide K _ bz1) (fun hHeld => ?_)
         clear hKK KK
         refine tk 3 228 (v := ?_) rfl (hy := .inl ⟨by rfl, ?_⟩) (h := ?_); rotate_left
         ·intro w hSw; (try dsimp only at hSw); go_simp; (try with_reducible rfl)
         simp only [pU]
         refine tk 4 229 (v := ?_) rfl (hy := .inl ⟨by rfl, ?_⟩) (h := ?_); rotate_left
         ·intro w hSw; (try dsimp only at hSw); go_simp; (try with_reducible rfl)
         simp only [pU]
         refine tk 6 231 (v := ?_) rfl (hy := .inl ⟨by rfl, ?_⟩) (h := ?_); rotate_left
         ·intro w hSw; (try dsimp only at hSw); go_simp; (try with_reducible rfl)
         simp only [pU]
         refine tk 9 234 (v := ?_) rfl (hy := .inl ⟨by rfl, ?_⟩) (h := ?_); rotate_left
         ·intro w hSw; (try dsimp only at hSw); go_simp; (try with_reducible rfl)
         simp only [pU]
         refine tk 5 230 (v := ?_) rfl (hy := .inl ⟨by rfl, ?_⟩) (h := ?_); rotate_left
         ·intro w hSw; (try dsimp only at hSw); go_simp; (try with_reducible rfl)
         simp only [pU]
         refine tk 7 232 (v := ?_) rfl (hy := .inl ⟨by rfl, ?_⟩) (h := ?_); rotate_left
         ·intro w hSw; (try dsimp only at hSw); go_simp; (try with_reducible rfl)
         simp only [pU]
         refine tk 10 235 (v := ?_) rfl (hy := .inl ⟨by rfl, ?_⟩) (h := ?_); rotate_left
         ·intro w hSw; (try dsimp only at hSw); go_simp; (try with_reducible rfl)
         simp only [pU]
         refine tk 11 236 (v := ?_) rfl (hy := .inl ⟨by rfl, ?_⟩) (h := ?_); rotate_left
         ·intro w hSw; (try dsimp only at hSw); go_simp; (try with_reducible rfl)
         simp only [pU]
         refine ready_at (i := 8) rfl (by kernel_rfl) (fun KK hKK => ?_)
         go_simp
         have hgo := bz1
         refine (unhide CM _ hgo).mono ?_
         rintro e wz27_2 ⟨rfl, bb⟩
         have bz2 : Below w30.heap.size w30 wz27_2 := bz1.trans (bb.mono bz1.size)
         clear bz1 hgo bb
         clear hHeld
         refine hKK.out _ _ (unhide K _ bz2) (fun hHeld => ?_)
         clear hKK KK
         refine tk 12 237 (v := ?_) rfl (hy := .inl ⟨by rfl, ?_⟩) (h := ?_); rotate_left
         ·intro w hSw; (try dsimp only at hSw); go_simp; (try with_reducible rfl)
         simp only [pU]
         refine tk 13 238 (v := ?_) rfl (hy := .inl ⟨by rfl, ?_⟩) (h := ?_); rotate_left
         ·intro w hSw; (try dsimp only at hSw); go_simp; (try with_reducible rfl)
         simp only [pU]
         refine tk 14 2 (v := ?_) rfl (hy := .inl ⟨by rfl, ?_⟩) (h := ?_); rotate_left
         ·intro w hSw; (try dsimp only at hSw); go_simp; (try with_reducible rfl)
         simp only [pU]
         clear hHeld
         refine wpAnyH_done (by kernel_rfl) ?_ _
         refine NoPanic.normal ?_
         have bb := bz2
         have Bwz27_2 := Bw30.trans (bb.mono Bw30.size)
         have swz27_2 := bb.size
         replace LA := LA.below bb LA.lt
         replace LB := LB.below bb LB.lt
         replace LJ := LJ.below bb LJ.lt
         replace LC := LC.below bb LC.lt
         replace LP := LP.below bb LP.lt
         replace LD := LD.below bb LD.lt
         replace LX := LX.below bb LX.lt
         replace LI := LI.below bb LI.lt
         replace LG := LG.below bb LG.lt
         clear Bw30
         replace OA := hide ((unhide OA).below bb (Nat.le_refl _))
         replace OB := hide ((unhide OB).below bb (Nat.le_refl _))
         replace OJ := hide ((unhide OJ).below bb (Nat.le_refl _))
         replace TP := hide ((unhide TP).below bb (Nat.le_refl _))
         replace OP := hide ((unhide OP).below bb (Nat.le_refl _))
         replace TT := hide ((unhide TT).below bb (Nat.le_refl _))
         replace OX := hide ((unhide OX).below bb (Nat.le_refl _))
         replace OI2 := hide ((unhide OI2).below bb (Nat.le_refl _))
         replace OG3 := hide ((unhide OG3).below bb (Nat.le_refl _))
         clear bb bz2 K
         go_wp2
         go_ret
         exact ⟨by simp, Bwz27_2⟩
   ·have hq := unhide QF rfl
    have QO := hide fun w' (h : RI w' (.slice aX (yl).length cX) yl) (hE : Env w') => implQcOk_at nd fd yv ys aX cX yl w' (by omega) hE h
    rw [qok_eq, hq] at QO
    clear hq
    have cLD0 := LD.cell 0 rfl
    have cLD1 := LD.cell 1 rfl
    have cLX0 := LX.cell 0 rfl
    have cLX1 := LX.cell 1 rfl
    have cLX2 := LX.cell 2 rfl
    go_wp2_with fail
    refine (unhide QO _ (unhide OX) (unhide HE _ Bwz16_13)).mono ?_
    rintro _ w24 ⟨rfl, bb⟩
    clear cLD0 cLD1 cLX0 cLX1 cLX2
    have Bw24 := Bwz16_13.trans (bb.mono Bwz16_13.size)
    have sw24 := bb.size
    replace LA := LA.below bb LA.lt
    replace LB := LB.below bb LB.lt
    replace LJ := LJ.below bb LJ.lt
    replace LC := LC.below bb LC.lt
    replace LP := LP.below bb LP.lt
    replace LD := LD.below bb LD.lt
    replace LX := LX.below bb LX.lt
    clear Bwz16_13
    replace OA := hide ((unhide OA).below bb (Nat.le_refl _))
    replace OB := hide ((unhide OB).below bb (Nat.le_refl _))
    replace OJ := hide ((unhide OJ).below bb (Nat.le_refl _))
    replace TP := hide ((unhide TP).below bb (Nat.le_refl _))
    replace OP := hide ((unhide OP).below bb (Nat.le_refl _))
    replace TT := hide ((unhide TT).below bb (Nat.le_refl _))
    replace OX := hide ((unhide OX).below bb (Nat.le_refl _))
    clear bb
    clear QO
    cases ok
    ·as_aux_lemma =>
      cases put
      ·have hrt := hide ((unhide AF).2 rfl)
       go_wp2_with fail
       refine (sameTable_yes (.slice aTT (rt).length cTT) (.slice aT (ps).length cT) ps _ (by omega) (by rw [← unhide hrt]; exact unhide TT) (unhide TP)).mono ?_
       rintro _ w25 ⟨rfl, bb⟩
       have Bw25 := Bw24.trans (bb.mono Bw24.size)
       have sw25 := bb.size
       replace LA := LA.below bb LA.lt
       replace LB := LB.below bb LB.lt
       replace LJ := LJ.below bb LJ.lt
       replace LC := LC.below bb LC.lt
       replace LP := LP.below bb LP.lt
       replace LD := LD.below bb LD.lt
       replace LX := LX.below bb LX.lt
       clear Bw24
       replace OA := hide ((unhide OA).below bb (Nat.le_refl _))
       replace OB := hide ((unhide OB).below bb (Nat.le_refl _))
       replace OJ := hide ((unhide OJ).below bb (Nat.le_refl _))
       replace TP := hide ((unhide TP).below bb (Nat.le_refl _))
       replace OP := hide ((unhide OP).below bb (Nat.le_refl _))
       replace TT := hide ((unhide TT).below bb (Nat.le_refl _))
       replace OX := hide ((unhide OX).below bb (Nat.le_refl _))
       clear bb
       go_wp2
       go_ret
       exact ⟨rfl, Bw25⟩
      ·obtain ⟨htk, hcm⟩ := (unhide AF).1 rfl
       have hgg := hide (smp_get (unhide S2) vp sp)
       have IG2 := hide fun w' (h : RPt w' (.slice aTT (rt).length cTT) rt) => implTableGet (.slice aTT (rt).length cTT) rt vp sp w' (by have := unhide HL3; omega) (by omega) (fun p hp => by have := unhide S2 p hp; omega) h
       have HK := hide htk
       have HC := hide hcm
       clear htk hcm AF
       generalize getP rt vp sp = gg at *
       have cLP0 := LP.cell 0 rfl
       have cLP1 := LP.cell 1 rfl
       have cLP2 := LP.cell 2 rfl
       go_wp2_with fail
       refine (unhide IG2 _ (unhide TT)).mono ?_
       rintro _ w25 ⟨ug3, rfl, OG3, bb⟩
       clear cLP0 cLP1 cLP2
       have Bw25 := Bw24.trans (bb.mono Bw24.size)
       have sw25 := bb.size
       replace LA := LA.below bb LA.lt
       replace LB := LB.below bb LB.lt
       replace LJ := LJ.below bb LJ.lt
       replace LC := LC.below bb LC.lt
       replace LP := LP.below bb LP.lt
       replace LD := LD.below bb LD.lt
       replace LX := LX.below bb LX.lt
       clear Bw24
       replace OA := hide ((unhide OA).below bb (Nat.le_refl _))
       replace OB := hide ((unhide OB).below bb (Nat.le_refl _))
       replace OJ := hide ((unhide OJ).below bb (Nat.le_refl _))
       replace TP := hide ((unhide TP).below bb (Nat.le_refl _))
       replace OP := hide ((unhide OP).below bb (Nat.le_refl _))
       replace TT := hide ((unhide TT).below bb (Nat.le_refl _))
       replace OX := hide ((unhide OX).below bb (Nat.le_refl _))
       clear bb
       clear IG2
       replace OG3 := OI.ri OG3 (by have := unhide hgg; omega)
       obtain ⟨aG3, cG3, rfl⟩ := OG3.form
       replace OG3 := hide OG3
       go_upto_region 27 with fail
       obtain ⟨w26, hw26⟩ : ∃ y, w25.alloc (.cells #[.int .i64 gg.1, .string gg.2.1, .slice aG3 (gg.2.2).length cG3] 52) = y := ⟨_, rfl⟩
       have bb : Below w25.heap.size w25 w26 := hw26 ▸ qalloc _ _
       have LG : Loc w26 w25.heap.size #[.int .i64 gg.1, .string gg.2.1, .slice aG3 (gg.2.2).length cG3] := hw26 ▸ loc_at w25 _ _ rfl
       have zw26 : w25.heap.size + 1 ≤ w26.heap.size := by rw [← hw26]; simp
       rw [hw26]
       clear hw26
       have Bw26 := Bw25.trans (bb.mono Bw25.size)
       have sw26 := bb.size
       replace LA := LA.below bb LA.lt
       replace LB := LB.below bb LB.lt
       replace LJ := LJ.below bb LJ.lt
       replace LC := LC.below bb LC.lt
       replace LP := LP.below bb LP.lt
       replace LD := LD.below bb LD.lt
       replace LX := LX.below bb LX.lt
       clear Bw25
       replace OA := hide ((unhide OA).below bb (Nat.le_refl _))
       replace OB := hide ((unhide OB).below bb (Nat.le_refl _))
       replace OJ := hide ((unhide OJ).below bb (Nat.le_refl _))
       replace TP := hide ((unhide TP).below bb (Nat.le_refl _))
       replace OP := hide ((unhide OP).below bb (Nat.le_refl _))
       replace TT := hide ((unhide TT).below bb (Nat.le_refl _))
       replace OX := hide ((unhide OX).below bb (Nat.le_refl _))
       replace OG3 := hide ((unhide OG3).below bb (Nat.le_refl _))
       clear bb
       have TK := hide fun w' (hb : Below w26.heap.size w26 w') => implTableOk n f (.slice aTT (rt).length cTT) rt w' (by have := unhide HL3; omega) (fun p hp => by have := unhide S2 p hp; omega) (unhide HE w' (Bw26.trans (hb.mono Bw26.size))) ((unhide TT).below hb (Nat.le_refl _))
       rw [unhide HK] at TK
       have CM := hide fun w' (hb : Below w26.heap.size w26 w') => implCommon (.slice aP (xp).length cP) (.slice aG3 (gg.2.2).length cG3) xp gg.2.2 w' ((unhide OP).below hb (Nat.le_refl _)) ((unhide OG3).below hb (Nat.le_refl _)) (unhide hwp) (unhide hgg).2
       rw [unhide HC] at CM
       have eL : ((xp.length : Int) == (xp.length : Int)) = true := by simp
       have eN : (xp.length == xp.length) = true := by simp
       have K : Hid (∀ w', Below w26.heap.size w26 w' → (fun w' => Below w26.heap.size w26 w' ∧ (w'.cell? ⟨w8.heap.size, 0, none⟩ = some (.int .i64 n) ∧ w'.cell? ⟨w8.heap.size, 1, none⟩ = some (.int .i64 f)) ∧ (w'.cell? ⟨w8.heap.size + 1, 0, none⟩ = some (.int .i64 vp) ∧ w'.cell? ⟨w8.heap.size + 1, 1, none⟩ = some (.string sp) ∧ w'.cell? ⟨w8.heap.size + 1, 2, none⟩ = some (.slice aP (xp).length cP)) ∧ (w'.cell? ⟨w25.heap.size, 0, none⟩ = some (.int .i64 gg.1) ∧ w'.cell? ⟨w25.heap.size, 1, none⟩ = some (.string gg.2.1) ∧ w'.cell? ⟨w25.heap.size, 2, none⟩ = some (.slice aG3 (gg.2.2).length cG3))) w') := hide fun w' hb' => ⟨hb', ⟨(LC.below hb' LC.lt).cell 0 rfl, (LC.below hb' LC.lt).cell 1 rfl⟩, ⟨(LP.below hb' LP.lt).cell 0 rfl, (LP.below hb' LP.lt).cell 1 rfl, (LP.below hb' LP.lt).cell 2 rfl⟩, ⟨(LG.below hb' LG.lt).cell 0 rfl, (LG.below hb' LG.lt).cell 1 rfl, (LG.below hb' LG.lt).cell 2 rfl⟩⟩
       have bA : Below w26.heap.size w26 w26.drew := Below.drew (Below.refl _ _)
       refine wp_region_noPanic ?_
       refine wp_region_held_drew (S := fun w' => Below w26.heap.size w26 w' ∧ (w'.cell? ⟨w8.heap.size, 0, none⟩ = some (.int .i64 n) ∧ w'.cell? ⟨w8.heap.size, 1, none⟩ = some (.int .i64 f)) ∧ (w'.cell? ⟨w8.heap.size + 1, 0, none⟩ = some (.int .i64 vp) ∧ w'.cell? ⟨w8.heap.size + 1, 1, none⟩ = some (.string sp) ∧ w'.cell? ⟨w8.heap.size + 1, 2, none⟩ = some (.slice aP (xp).length cP)) ∧ (w'.cell? ⟨w25.heap.size, 0, none⟩ = some (.int .i64 gg.1) ∧ w'.cell? ⟨w25.heap.size, 1, none⟩ = some (.string gg.2.1) ∧ w'.cell? ⟨w25.heap.size, 2, none⟩ = some (.slice aG3 (gg.2.2).length cG3))) (by kernel_rfl) (unhide K _ bA) (fun hHeld => ?_)
       refine tk 0 225 (v := ?_) rfl (hy := .inl ⟨by rfl, ?_⟩) (h := ?_); rotate_left
       ·intro w hSw; (try dsimp only at hSw); go_simp; (try with_reducible rfl)
       simp only [pU]
       refine tk 1 226 (v := ?_) rfl (hy := .inl ⟨by rfl, ?_⟩) (h := ?_); rotate_left
       ·intro w hSw; (try dsimp only at hSw); go_simp; (try with_reducible rfl)
       simp only [pU]
       refine ready_at (i := 2) rfl (by kernel_rfl) (fun KK hKK => ?_)
       go_simp
       have hgo := bA
       refine (unhide TK _ hgo).mono ?_
       rintro e wz27_1 ⟨rfl, bb⟩
       have bz1 : Below w26.heap.size w26 wz27_1 := bA.trans (bb.mono bA.size)
       clear bA hgo bb
       clear hHeld
       refine hKK.out _ _ (unhide K _ bz1) (fun hHeld => ?_)
       clear hKK KK
       refine tk 3 228 (v := ?_) rfl (hy := .inl ⟨by rfl, ?_⟩) (h := ?_); rotate_left
       ·intro w hSw; (try dsimp only at hSw); go_simp; (try with_reducible rfl)
       simp only [pU]
       refine tk 4 229 (v := ?_) rfl (hy := .inl ⟨by rfl, ?_⟩) (h := ?_); rotate_left
       ·intro w hSw; (try dsimp only at hSw); go_simp; (try with_reducible rfl)
       simp only [pU]
       refine tk 6 231 (v := ?_) rfl (hy := .inl ⟨by rfl, ?_⟩) (h := ?_); rotate_left
       ·intro w hSw; (try dsimp only at hSw); go_simp; (try with_reducible rfl)
       simp only [pU]
       refine tk 9 234 (v := ?_) rfl (hy := .inl ⟨by rfl, ?_⟩) (h := ?_); rotate_left
       ·intro w hSw; (try dsimp only at hSw); go_simp; (try with_reducible rfl)
       simp only [pU]
       refine tk 5 230 (v := ?_) rfl (hy := .inl ⟨by rfl, ?_⟩) (h := ?_); rotate_left
       ·intro w hSw; (try dsimp only at hSw); go_simp; (try with_reducible rfl)
       simp only [pU]
       refine tk 7 232 (v := ?_) rfl (hy := .inl ⟨by rfl, ?_⟩) (h := ?_); rotate_left
       ·intro w hSw; (try dsimp only at hSw); go_simp; (try with_reducible rfl)
       simp only [pU]
       refine tk 10 235 (v := ?_) rfl (hy := .inl ⟨by rfl, ?_⟩) (h := ?_); rotate_left
       ·intro w hSw; (try dsimp only at hSw); go_simp; (try with_reducible rfl)
       simp only [pU]
       refine tk 11 236 (v := ?_) rfl (hy := .inl ⟨by rfl, ?_⟩) (h := ?_); rotate_left
       ·intro w hSw; (try dsimp only at hSw); go_simp; (try with_reducible rfl)
       simp only [pU]
       refine ready_at (i := 8) rfl (by kernel_rfl) (fun KK hKK => ?_)
       go_simp
       have hgo := bz1
       refine (unhide CM _ hgo).mono ?_
       rintro e wz27_2 ⟨rfl, bb⟩
       have bz2 : Below w26.heap.size w26 wz27_2 := bz1.trans (bb.mono bz1.size)
       clear bz1 hgo bb
       clear hHeld
       refine hKK.out _ _ (unhide K _ bz2) (fun hHeld => ?_)
       clear hKK KK
       refine tk 12 237 (v := ?_) rfl (hy := .inl ⟨by rfl, ?_⟩) (h := ?_); rotate_left
       ·intro w hSw; (try dsimp only at hSw); go_simp; (try with_reducible rfl)
       simp only [pU]
       refine tk 13 238 (v := ?_) rfl (hy := .inl ⟨by rfl, ?_⟩) (h := ?_); rotate_left
       ·intro w hSw; (try dsimp only at hSw); go_simp; (try with_reducible rfl)
       simp only [pU]
       refine tk 14 2 (v := ?_) rfl (hy := .inl ⟨by rfl, ?_⟩) (h := ?_); rotate_left
       ·intro w hSw; (try dsimp only at hSw); go_simp; (try with_reducible rfl)
       simp only [pU]
       clear hHeld
       refine wpAnyH_done (by kernel_rfl) ?_ _
       refine NoPanic.normal ?_
       have bb := bz2
       have Bwz27_2 := Bw26.trans (bb.mono Bw26.size)
       have swz27_2 := bb.size
       replace LA := LA.below bb LA.lt
       replace LB := LB.below bb LB.lt
       replace LJ := LJ.below bb LJ.lt
       replace LC := LC.below bb LC.lt
       replace LP := LP.below bb LP.lt
       replace LD := LD.below bb LD.lt
       replace LX := LX.below bb LX.lt
       replace LG := LG.below bb LG.lt
       clear Bw26
       replace OA := hide ((unhide OA).below bb (Nat.le_refl _))
       replace OB := hide ((unhide OB).below bb (Nat.le_refl _))
       replace OJ := hide ((unhide OJ).below bb (Nat.le_refl _))
       replace TP := hide ((unhide TP).below bb (Nat.le_refl _))
       replace OP := hide ((unhide OP).below bb (Nat.le_refl _))
       replace TT := hide ((unhide TT).below bb (Nat.le_refl _))
       replace OX := hide ((unhide OX).below bb (Nat.le_refl _))
       replace OG3 := hide ((unhide OG3).below bb (Nat.le_refl _))
       clear bb bz2 K
       go_wp2
       go_ret
       exact ⟨by simp, Bwz27_2⟩
    ·have SA := hide fun w' (h : RI w' (.slice aA (xa).length cA) xa) => implSetOk 7 (.slice aA (xa).length cA) xa w' h
     have SB := hide fun w' (h : RI w' (.slice aB (xb).length cB) xb) => implSetOk 7 (.slice aB (xb).length cB) xb w' h
     generalize decide (OkL 7 xa) = ba at SA
     generalize decide (OkL 7 xb) = bb' at SB
     have cLA0 := LA.cell 0 rfl
     have cLA1 := LA.cell 1 rfl
     have cLA2 := LA.cell 2 rfl
     have cLB0 := LB.cell 0 rfl
     have cLB1 := LB.cell 1 rfl
     have cLB2 := LB.cell 2 rfl
     go_wp2_with fail
     refine (unhide SA _ (unhide OA)).mono ?_
     rintro _ w25 ⟨rfl, bb⟩
     clear cLA0 cLA1 cLA2 cLB0 cLB1 cLB2
     have Bw25 := Bw24.trans (bb.mono Bw24.size)
     have sw25 := bb.size
     replace LA := LA.below bb LA.lt
     replace LB := LB.below bb LB.lt
     replace LJ := LJ.below bb LJ.lt
     replace LC := LC.below bb LC.lt
     replace LP := LP.below bb LP.lt
     replace LD := LD.below bb LD.lt
     replace LX := LX.below bb LX.lt
     clear Bw24
     replace OA := hide ((unhide OA).below bb (Nat.le_refl _))
     replace OB := hide ((unhide OB).below bb (Nat.le_refl _))
     replace OJ := hide ((unhide OJ).below bb (Nat.le_refl _))
     replace TP := hide ((unhide TP).below bb (Nat.le_refl _))
     replace OP := hide ((unhide OP).below bb (Nat.le_refl _))
     replace TT := hide ((unhide TT).below bb (Nat.le_refl _))
     replace OX := hide ((unhide OX).below bb (Nat.le_refl _))
     clear bb
     clear SA
     cases ba
     ·as_aux_lemma =>
       cases put
       ·have hrt := hide ((unhide AF).2 rfl)
        go_wp2_with fail
        refine (sameTable_yes (.slice aTT (rt).length cTT) (.slice aT (ps).length cT) ps _ (by omega) (by rw [← unhide hrt]; exact unhide TT) (unhide TP)).mono ?_
        rintro _ w26 ⟨rfl, bb⟩
        have Bw26 := Bw25.trans (bb.mono Bw25.size)
        have sw26 := bb.size
        replace LA := LA.below bb LA.lt
        replace LB := LB.below bb LB.lt
        replace LJ := LJ.below bb LJ.lt
        replace LC := LC.below bb LC.lt
        replace LP := LP.below bb LP.lt
        replace LD := LD.below bb LD.lt
        replace LX := LX.below bb LX.lt
        clear Bw25
        replace OA := hide ((unhide OA).below bb (Nat.le_refl _))
        replace OB := hide ((unhide OB).below bb (Nat.le_refl _))
        replace OJ := hide ((unhide OJ).below bb (Nat.le_refl _))
        replace TP := hide ((unhide TP).below bb (Nat.le_refl _))
        replace OP := hide ((unhide OP).below bb (Nat.le_refl _))
        replace TT := hide ((unhide TT).below bb (Nat.le_refl _))
        replace OX := hide ((unhide OX).below bb (Nat.le_refl _))
        clear bb
        go_wp2
        go_ret
        exact ⟨rfl, Bw26⟩
       ·obtain ⟨htk, hcm⟩ := (unhide AF).1 rfl
        have hgg := hide (smp_get (unhide S2) vp sp)
        have IG2 := hide fun w' (h : RPt w' (.slice aTT (rt).length cTT) rt) => implTableGet (.slice aTT (rt).length cTT) rt vp sp w' (by have := unhide HL3; omega) (by omega) (fun p hp => by have := unhide S2 p hp; omega) h
        have HK := hide htk
        have HC := hide hcm
        clear htk hcm AF
        generalize getP rt vp sp = gg at *
        have cLP0 := LP.cell 0 rfl
        have cLP1 := LP.cell 1 rfl
        have cLP2 := LP.cell 2 rfl
        go_wp2_with fail
        refine (unhide IG2 _ (unhide TT)).mono ?_
        rintro _ w26 ⟨ug3, rfl, OG3, bb⟩
        clear cLP0 cLP1 cLP2
        have Bw26 := Bw25.trans (bb.mono Bw25.size)
        have sw26 := bb.size
        replace LA := LA.below bb LA.lt
        replace LB := LB.below bb LB.lt
        replace LJ := LJ.below bb LJ.lt
        replace LC := LC.below bb LC.lt
        replace LP := LP.below bb LP.lt
        replace LD := LD.below bb LD.lt
        replace LX := LX.below bb LX.lt
        clear Bw25
        replace OA := hide ((unhide OA).below bb (Nat.le_refl _))
        replace OB := hide ((unhide OB).below bb (Nat.le_refl _))
        replace OJ := hide ((unhide OJ).below bb (Nat.le_refl _))
        replace TP := hide ((unhide TP).below bb (Nat.le_refl _))
        replace OP := hide ((unhide OP).below bb (Nat.le_refl _))
        replace TT := hide ((unhide TT).below bb (Nat.le_refl _))
        replace OX := hide ((unhide OX).below bb (Nat.le_refl _))
        clear bb
        clear IG2
        replace OG3 := OI.ri OG3 (by have := unhide hgg; omega)
        obtain ⟨aG3, cG3, rfl⟩ := OG3.form
        replace OG3 := hide OG3
        go_upto_region 27 with fail
        obtain ⟨w27, hw27⟩ : ∃ y, w26.alloc (.cells #[.int .i64 gg.1, .string gg.2.1, .slice aG3 (gg.2.2).length cG3] 52) = y := ⟨_, rfl⟩
        have bb : Below w26.heap.size w26 w27 := hw27 ▸ qalloc _ _
        have LG : Loc w27 w26.heap.size #[.int .i64 gg.1, .string gg.2.1, .slice aG3 (gg.2.2).length cG3] := hw27 ▸ loc_at w26 _ _ rfl
        have zw27 : w26.heap.size + 1 ≤ w27.heap.size := by rw [← hw27]; simp
        rw [hw27]
        clear hw27
        have Bw27 := Bw26.trans (bb.mono Bw26.size)
        have sw27 := bb.size
        replace LA := LA.below bb LA.lt
        replace LB := LB.below bb LB.lt
        replace LJ := LJ.below bb LJ.lt
        replace LC := LC.below bb LC.lt
        replace LP := LP.below bb LP.lt
        replace LD := LD.below bb LD.lt
        replace LX := LX.below bb LX.lt
        clear Bw26
        replace OA := hide ((unhide OA).below bb (Nat.le_refl _))
        replace OB := hide ((unhide OB).below bb (Nat.le_refl _))
        replace OJ := hide ((unhide OJ).below bb (Nat.le_refl _))
        replace TP := hide ((unhide TP).below bb (Nat.le_refl _))
        replace OP := hide ((unhide OP).below bb (Nat.le_refl _))
        replace TT := hide ((unhide TT).below bb (Nat.le_refl _))
        replace OX := hide ((unhide OX).below bb (Nat.le_refl _))
        replace OG3 := hide ((unhide OG3).below bb (Nat.le_refl _))
        clear bb
        have TK := hide fun w' (hb : Below w27.heap.size w27 w') => implTableOk n f (.slice aTT (rt).length cTT) rt w' (by have := unhide HL3; omega) (fun p hp => by have := unhide S2 p hp; omega) (unhide HE w' (Bw27.trans (hb.mono Bw27.size))) ((unhide TT).below hb (Nat.le_refl _))
        rw [unhide HK] at TK
        have CM := hide fun w' (hb : Below w27.heap.size w27 w') => implCommon (.slice aP (xp).length cP) (.slice aG3 (gg.2.2).length cG3) xp gg.2.2 w' ((unhide OP).below hb (Nat.le_refl _)) ((unhide OG3).below hb (Nat.le_refl _)) (unhide hwp) (unhide hgg).2
        rw [unhide HC] at CM
        have eL : ((xp.length : Int) == (xp.length : Int)) = true := by simp
        have eN : (xp.length == xp.length) = true := by simp
        have K : Hid (∀ w', Below w27.heap.size w27 w' → (fun w' => Below w27.heap.size w27 w' ∧ (w'.cell? ⟨w8.heap.size, 0, none⟩ = some (.int .i64 n) ∧ w'.cell? ⟨w8.heap.size, 1, none⟩ = some (.int .i64 f)) ∧ (w'.cell? ⟨w8.heap.size + 1, 0, none⟩ = some (.int .i64 vp) ∧ w'.cell? ⟨w8.heap.size + 1, 1, none⟩ = some (.string sp) ∧ w'.cell? ⟨w8.heap.size + 1, 2, none⟩ = some (.slice aP (xp).length cP)) ∧ (w'.cell? ⟨w26.heap.size, 0, none⟩ = some (.int .i64 gg.1) ∧ w'.cell? ⟨w26.heap.size, 1, none⟩ = some (.string gg.2.1) ∧ w'.cell? ⟨w26.heap.size, 2, none⟩ = some (.slice aG3 (gg.2.2).length cG3))) w') := hide fun w' hb' => ⟨hb', ⟨(LC.below hb' LC.lt).cell 0 rfl, (LC.below hb' LC.lt).cell 1 rfl⟩, ⟨(LP.below hb' LP.lt).cell 0 rfl, (LP.below hb' LP.lt).cell 1 rfl, (LP.below hb' LP.lt).cell 2 rfl⟩, ⟨(LG.below hb' LG.lt).cell 0 rfl, (LG.below hb' LG.lt).cell 1 rfl, (LG.below hb' LG.lt).cell 2 rfl⟩⟩
        have bA : Below w27.heap.size w27 w27.drew := Below.drew (Below.refl _ _)
        refine wp_region_noPanic ?_
        refine wp_region_held_drew (S := fun w' => Below w27.heap.size w27 w' ∧ (w'.cell? ⟨w8.heap.size, 0, none⟩ = some (.int .i64 n) ∧ w'.cell? ⟨w8.heap.size, 1, none⟩ = some (.int .i64 f)) ∧ (w'.cell? ⟨w8.heap.size + 1, 0, none⟩ = some (.int .i64 vp) ∧ w'.cell? ⟨w8.heap.size + 1, 1, none⟩ = some (.string sp) ∧ w'.cell? ⟨w8.heap.size + 1, 2, none⟩ = some (.slice aP (xp).length cP)) ∧ (w'.cell? ⟨w26.heap.size, 0, none⟩ = some (.int .i64 gg.1) ∧ w'.cell? ⟨w26.heap.size, 1, none⟩ = some (.string gg.2.1) ∧ w'.cell? ⟨w26.heap.size, 2, none⟩ = some (.slice aG3 (gg.2.2).length cG3))) (by kernel_rfl) (unhide K _ bA) (fun hHeld => ?_)
        refine tk 0 225 (v := ?_) rfl (hy := .inl ⟨by rfl, ?_⟩) (h := ?_); rotate_left
        ·intro w hSw; (try dsimp only at hSw); go_simp; (try with_reducible rfl)
        simp only [pU]
        refine tk 1 226 (v := ?_) rfl (hy := .inl ⟨by rfl, ?_⟩) (h := ?_); rotate_left
        ·intro w hSw; (try dsimp only at hSw); go_simp; (try with_reducible rfl)
        simp only [pU]
        refine ready_at (i := 2) rfl (by kernel_rfl) (fun KK hKK => ?_)
        go_simp
        have hgo := bA
        refine (unhide TK _ hgo).mono ?_
        rintro e wz27_1 ⟨rfl, bb⟩
        have bz1 : Below w27.heap.size w27 wz27_1 := bA.trans (bb.mono bA.size)
        clear bA hgo bb
        clear hHeld
        refine hKK.out _ _ (unhide K _ bz1) (fun hHeld => ?_)
        clear hKK KK
        refine tk 3 228 (v := ?_) rfl (hy := .inl ⟨by rfl, ?_⟩) (h := ?_); rotate_left
        ·intro w hSw; (try dsimp only at hSw); go_simp; (try with_reducible rfl)
        simp only [pU]
        refine tk 4 229 (v := ?_) rfl (hy := .inl ⟨by rfl, ?_⟩) (h := ?_); rotate_left
        ·intro w hSw; (try dsimp only at hSw); go_simp; (try with_reducible rfl)
        simp only [pU]
        refine tk 6 231 (v := ?_) rfl (hy := .inl ⟨by rfl, ?_⟩) (h := ?_); rotate_left
        ·intro w hSw; (try dsimp only at hSw); go_simp; (try with_reducible rfl)
        simp only [pU]
        refine tk 9 234 (v := ?_) rfl (hy := .inl ⟨by rfl, ?_⟩) (h := ?_); rotate_left
        ·intro w hSw; (try dsimp only at hSw); go_simp; (try with_reducible rfl)
        simp only [pU]
        refine tk 5 230 (v := ?_) rfl (hy := .inl ⟨by rfl, ?_⟩) (h := ?_); rotate_left
        ·intro w hSw; (try dsimp only at hSw); go_simp; (try with_reducible rfl)
        simp only [pU]
        refine tk 7 232 (v := ?_) rfl (hy := .inl ⟨by rfl, ?_⟩) (h := ?_); rotate_left
        ·intro w hSw; (try dsimp only at hSw); go_simp; (try with_reducible rfl)
        simp only [pU]
        refine tk 10 235 (v := ?_) rfl (hy := .inl ⟨by rfl, ?_⟩) (h := ?_); rotate_left
        ·intro w hSw; (try dsimp only at hSw); go_simp; (try with_reducible rfl)
        simp only [pU]
        refine tk 11 236 (v := ?_) rfl (hy := .inl ⟨by rfl, ?_⟩) (h := ?_); rotate_left
        ·intro w hSw; (try dsimp only at hSw); go_simp; (try with_reducible rfl)
        simp only [pU]
        refine ready_at (i := 8) rfl (by kernel_rfl) (fun KK hKK => ?_)
        go_simp
        have hgo := bz1
        refine (unhide CM _ hgo).mono ?_
        rintro e wz27_2 ⟨rfl, bb⟩
        have bz2 : Below w27.heap.size w27 wz27_2 := bz1.trans (bb.mono bz1.size)
        clear bz1 hgo bb
        clear hHeld
        refine hKK.out _ _ (unhide K _ bz2) (fun hHeld => ?_)
        clear hKK KK
        refine tk 12 237 (v := ?_) rfl (hy := .inl ⟨by rfl, ?_⟩) (h := ?_); rotate_left
        ·intro w hSw; (try dsimp only at hSw); go_simp; (try with_reducible rfl)
        simp only [pU]
        refine tk 13 238 (v := ?_) rfl (hy := .inl ⟨by rfl, ?_⟩) (h := ?_); rotate_left
        ·intro w hSw; (try dsimp only at hSw); go_simp; (try with_reducible rfl)
        simp only [pU]
        refine tk 14 2 (v := ?_) rfl (hy := .inl ⟨by rfl, ?_⟩) (h := ?_); rotate_left
        ·intro w hSw; (try dsimp only at hSw); go_simp; (try with_reducible rfl)
        simp only [pU]
        clear hHeld
        refine wpAnyH_done (by kernel_rfl) ?_ _
        refine NoPanic.normal ?_
        have bb := bz2
        have Bwz27_2 := Bw27.trans (bb.mono Bw27.size)
        have swz27_2 := bb.size
        replace LA := LA.below bb LA.lt
        replace LB := LB.below bb LB.lt
        replace LJ := LJ.below bb LJ.lt
        replace LC := LC.below bb LC.lt
        replace LP := LP.below bb LP.lt
        replace LD := LD.below bb LD.lt
        replace LX := LX.below bb LX.lt
        replace LG := LG.below bb LG.lt
        clear Bw27
        replace OA := hide ((unhide OA).below bb (Nat.le_refl _))
        replace OB := hide ((unhide OB).below bb (Nat.le_refl _))
        replace OJ := hide ((unhide OJ).below bb (Nat.le_refl _))
        replace TP := hide ((unhide TP).below bb (Nat.le_refl _))
        replace OP := hide ((unhide OP).below bb (Nat.le_refl _))
        replace TT := hide ((unhide TT).below bb (Nat.le_refl _))
        replace OX := hide ((unhide OX).below bb (Nat.le_refl _))
        replace OG3 := hide ((unhide OG3).below bb (Nat.le_refl _))
        clear bb bz2 K
        go_wp2
        go_ret
        exact ⟨by simp, Bwz27_2⟩
     ·have cLA0 := LA.cell 0 rfl
      have cLA1 := LA.cell 1 rfl
      have cLA2 := LA.cell 2 rfl
      have cLB0 := LB.cell 0 rfl
      have cLB1 := LB.cell 1 rfl
      have cLB2 := LB.cell 2 rfl
      go_wp2_with fail
      refine (unhide SB _ (unhide OB)).mono ?_
      rintro _ w26 ⟨rfl, bb⟩
      clear cLA0 cLA1 cLA2 cLB0 cLB1 cLB2
      have Bw26 := Bw25.trans (bb.mono Bw25.size)
      have sw26 := bb.size
      replace LA := LA.below bb LA.lt
      replace LB := LB.below bb LB.lt
      replace LJ := LJ.below bb LJ.lt
      replace LC := LC.below bb LC.lt
      replace LP := LP.below bb LP.lt
      replace LD := LD.below bb LD.lt
      replace LX := LX.below bb LX.lt
      clear Bw25
      replace OA := hide ((unhide OA).below bb (Nat.le_refl _))
      replace OB := hide ((unhide OB).below bb (Nat.le_refl _))
      replace OJ := hide ((unhide OJ).below bb (Nat.le_refl _))
      replace TP := hide ((unhide TP).below bb (Nat.le_refl _))
      replace OP := hide ((unhide OP).below bb (Nat.le_refl _))
      replace TT := hide ((unhide TT).below bb (Nat.le_refl _))
      replace OX := hide ((unhide OX).below bb (Nat.le_refl _))
      clear bb
      clear SB
      cases bb'
      ·as_aux_lemma =>
        cases put
        ·have hrt := hide ((unhide AF).2 rfl)
         go_wp2_with fail
         refine (sameTable_yes (.slice aTT (rt).length cTT) (.slice aT (ps).length cT) ps _ (by omega) (by rw [← unhide hrt]; exact unhide TT) (unhide TP)).mono ?_
         rintro _ w27 ⟨rfl, bb⟩
         have Bw27 := Bw26.trans (bb.mono Bw26.size)
         have sw27 := bb.size
         replace LA := LA.below bb LA.lt
         replace LB := LB.below bb LB.lt
         replace LJ := LJ.below bb LJ.lt
         replace LC := LC.below bb LC.lt
         replace LP := LP.below bb LP.lt
         replace LD := LD.below bb LD.lt
         replace LX := LX.below bb LX.lt
         clear Bw26
         replace OA := hide ((unhide OA).below bb (Nat.le_refl _))
         replace OB := hide ((unhide OB).below bb (Nat.le_refl _))
         replace OJ := hide ((unhide OJ).below bb (Nat.le_refl _))
         replace TP := hide ((unhide TP).below bb (Nat.le_refl _))
         replace OP := hide ((unhide OP).below bb (Nat.le_refl _))
         replace TT := hide ((unhide TT).below bb (Nat.le_refl _))
         replace OX := hide ((unhide OX).below bb (Nat.le_refl _))
         clear bb
         go_wp2
         go_ret
         exact ⟨rfl, Bw27⟩
        ·obtain ⟨htk, hcm⟩ := (unhide AF).1 rfl
         have hgg := hide (smp_get (unhide S2) vp sp)
         have IG2 := hide fun w' (h : RPt w' (.slice aTT (rt).length cTT) rt) => implTableGet (.slice aTT (rt).length cTT) rt vp sp w' (by have := unhide HL3; omega) (by omega) (fun p hp => by have := unhide S2 p hp; omega) h
         have HK := hide htk
         have HC := hide hcm
         clear htk hcm AF
         generalize getP rt vp sp = gg at *
         have cLP0 := LP.cell 0 rfl
         have cLP1 := LP.cell 1 rfl
         have cLP2 := LP.cell 2 rfl
         go_wp2_with fail
         refine (unhide IG2 _ (unhide TT)).mono ?_
         rintro _ w27 ⟨ug3, rfl, OG3, bb⟩
         clear cLP0 cLP1 cLP2
         have Bw27 := Bw26.trans (bb.mono Bw26.size)
         have sw27 := bb.size
         replace LA := LA.below bb LA.lt
         replace LB := LB.below bb LB.lt
         replace LJ := LJ.below bb LJ.lt
         replace LC := LC.below bb LC.lt
         replace LP := LP.below bb LP.lt
         replace LD := LD.below bb LD.lt
         replace LX := LX.below bb LX.lt
         clear Bw26
         replace OA := hide ((unhide OA).below bb (Nat.le_refl _))
         replace OB := hide ((unhide OB).below bb (Nat.le_refl _))
         replace OJ := hide ((unhide OJ).below bb (Nat.le_refl _))
         replace TP := hide ((unhide TP).below bb (Nat.le_refl _))
         replace OP := hide ((unhide OP).below bb (Nat.le_refl _))
         replace TT := hide ((unhide TT).below bb (Nat.le_refl _))
         replace OX := hide ((unhide OX).below bb (Nat.le_refl _))
         clear bb
         clear IG2
         replace OG3 := OI.ri OG3 (by have := unhide hgg; omega)
         obtain ⟨aG3, cG3, rfl⟩ := OG3.form
         replace OG3 := hide OG3
         go_upto_region 27 with fail
         obtain ⟨w28, hw28⟩ : ∃ y, w27.alloc (.cells #[.int .i64 gg.1, .string gg.2.1, .slice aG3 (gg.2.2).length cG3] 52) = y := ⟨_, rfl⟩
         have bb : Below w27.heap.size w27 w28 := hw28 ▸ qalloc _ _
         have LG : Loc w28 w27.heap.size #[.int .i64 gg.1, .string gg.2.1, .slice aG3 (gg.2.2).length cG3] := hw28 ▸ loc_at w27 _ _ rfl
         have zw28 : w27.heap.size + 1 ≤ w28.heap.size := by rw [← hw28]; simp
         rw [hw28]
         clear hw28
         have Bw28 := Bw27.trans (bb.mono Bw27.size)
         have sw28 := bb.size
         replace LA := LA.below bb LA.lt
         replace LB := LB.below bb LB.lt
         replace LJ := LJ.below bb LJ.lt
         replace LC := LC.below bb LC.lt
         replace LP := LP.below bb LP.lt
         replace LD := LD.below bb LD.lt
         replace LX := LX.below bb LX.lt
         clear Bw27
         replace OA := hide ((unhide OA).below bb (Nat.le_refl _))
         replace OB := hide ((unhide OB).below bb (Nat.le_refl _))
         replace OJ := hide ((unhide OJ).below bb (Nat.le_refl _))
         replace TP := hide ((unhide TP).below bb (Nat.le_refl _))
         replace OP := hide ((unhide OP).below bb (Nat.le_refl _))
         replace TT := hide ((unhide TT).below bb (Nat.le_refl _))
         replace OX := hide ((unhide OX).below bb (Nat.le_refl _))
         replace OG3 := hide ((unhide OG3).below bb (Nat.le_refl _))
         clear bb
         have TK := hide fun w' (hb : Below w28.heap.size w28 w') => implTableOk n f (.slice aTT (rt).length cTT) rt w' (by have := unhide HL3; omega) (fun p hp => by have := unhide S2 p hp; omega) (unhide HE w' (Bw28.trans (hb.mono Bw28.size))) ((unhide TT).below hb (Nat.le_refl _))
         rw [unhide HK] at TK
         have CM := hide fun w' (hb : Below w28.heap.size w28 w') => implCommon (.slice aP (xp).length cP) (.slice aG3 (gg.2.2).length cG3) xp gg.2.2 w' ((unhide OP).below hb (Nat.le_refl _)) ((unhide OG3).below hb (Nat.le_refl _)) (unhide hwp) (unhide hgg).2
         rw [unhide HC] at CM
         have eL : ((xp.length : Int) == (xp.length : Int)) = true := by simp
         have eN : (xp.length == xp.length) = true := by simp
         have K : Hid (∀ w', Below w28.heap.size w28 w' → (fun w' => Below w28.heap.size w28 w' ∧ (w'.cell? ⟨w8.heap.size, 0, none⟩ = some (.int .i64 n) ∧ w'.cell? ⟨w8.heap.size, 1, none⟩ = some (.int .i64 f)) ∧ (w'.cell? ⟨w8.heap.size + 1, 0, none⟩ = some (.int .i64 vp) ∧ w'.cell? ⟨w8.heap.size + 1, 1, none⟩ = some (.string sp) ∧ w'.cell? ⟨w8.heap.size + 1, 2, none⟩ = some (.slice aP (xp).length cP)) ∧ (w'.cell? ⟨w27.heap.size, 0, none⟩ = some (.int .i64 gg.1) ∧ w'.cell? ⟨w27.heap.size, 1, none⟩ = some (.string gg.2.1) ∧ w'.cell? ⟨w27.heap.size, 2, none⟩ = some (.slice aG3 (gg.2.2).length cG3))) w') := hide fun w' hb' => ⟨hb', ⟨(LC.below hb' LC.lt).cell 0 rfl, (LC.below hb' LC.lt).cell 1 rfl⟩, ⟨(LP.below hb' LP.lt).cell 0 rfl, (LP.below hb' LP.lt).cell 1 rfl, (LP.below hb' LP.lt).cell 2 rfl⟩, ⟨(LG.below hb' LG.lt).cell 0 rfl, (LG.below hb' LG.lt).cell 1 rfl, (LG.below hb' LG.lt).cell 2 rfl⟩⟩
         have bA : Below w28.heap.size w28 w28.drew := Below.drew (Below.refl _ _)
         refine wp_region_noPanic ?_
         refine wp_region_held_drew (S := fun w' => Below w28.heap.size w28 w' ∧ (w'.cell? ⟨w8.heap.size, 0, none⟩ = some (.int .i64 n) ∧ w'.cell? ⟨w8.heap.size, 1, none⟩ = some (.int .i64 f)) ∧ (w'.cell? ⟨w8.heap.size + 1, 0, none⟩ = some (.int .i64 vp) ∧ w'.cell? ⟨w8.heap.size + 1, 1, none⟩ = some (.string sp) ∧ w'.cell? ⟨w8.heap.size + 1, 2, none⟩ = some (.slice aP (xp).length cP)) ∧ (w'.cell? ⟨w27.heap.size, 0, none⟩ = some (.int .i64 gg.1) ∧ w'.cell? ⟨w27.heap.size, 1, none⟩ = some (.string gg.2.1) ∧ w'.cell? ⟨w27.heap.size, 2, none⟩ = some (.slice aG3 (gg.2.2).length cG3))) (by kernel_rfl) (unhide K _ bA) (fun hHeld => ?_)
         refine tk 0 225 (v := ?_) rfl (hy := .inl ⟨by rfl, ?_⟩) (h := ?_); rotate_left
         ·intro w hSw; (try dsimp only at hSw); go_simp; (try with_reducible rfl)
         simp only [pU]
         refine tk 1 226 (v := ?_) rfl (hy := .inl ⟨by rfl, ?_⟩) (h := ?_); rotate_left
         ·intro w hSw; (try dsimp only at hSw); go_simp; (try with_reducible rfl)
         simp only [pU]
         refine ready_at (i := 2) rfl (by kernel_rfl) (fun KK hKK => ?_)
         go_simp
         have hgo := bA
         refine (unhide TK _ hgo).mono ?_
         rintro e wz27_1 ⟨rfl, bb⟩
         have bz1 : Below w28.heap.size w28 wz27_1 := bA.trans (bb.mono bA.size)
         clear bA hgo bb
         clear hHeld
         refine hKK.out _ _ (unhide K _ bz1) (fun hHeld => ?_)
         clear hKK KK
         refine tk 3 228 (v := ?_) rfl (hy := .inl ⟨by rfl, ?_⟩) (h := ?_); rotate_left
         ·intro w hSw; (try dsimp only at hSw); go_simp; (try with_reducible rfl)
         simp only [pU]
         refine tk 4 229 (v := ?_) rfl (hy := .inl ⟨by rfl, ?_⟩) (h := ?_); rotate_left
         ·intro w hSw; (try dsimp only at hSw); go_simp; (try with_reducible rfl)
         simp only [pU]
         refine tk 6 231 (v := ?_) rfl (hy := .inl ⟨by rfl, ?_⟩) (h := ?_); rotate_left
         ·intro w hSw; (try dsimp only at hSw); go_simp; (try with_reducible rfl)
         simp only [pU]
         refine tk 9 234 (v := ?_) rfl (hy := .inl ⟨by rfl, ?_⟩) (h := ?_); rotate_left
         ·intro w hSw; (try dsimp only at hSw); go_simp; (try with_reducible rfl)
         simp only [pU]
         refine tk 5 230 (v := ?_) rfl (hy := .inl ⟨by rfl, ?_⟩) (h := ?_); rotate_left
         ·intro w hSw; (try dsimp only at hSw); go_simp; (try with_reducible rfl)
         simp only [pU]
         refine tk 7 232 (v := ?_) rfl (hy := .inl ⟨by rfl, ?_⟩) (h := ?_); rotate_left
         ·intro w hSw; (try dsimp only at hSw); go_simp; (try with_reducible rfl)
         simp only [pU]
         refine tk 10 235 (v := ?_) rfl (hy := .inl ⟨by rfl, ?_⟩) (h := ?_); rotate_left
         ·intro w hSw; (try dsimp only at hSw); go_simp; (try with_reducible rfl)
         simp only [pU]
         refine tk 11 236 (v := ?_) rfl (hy := .inl ⟨by rfl, ?_⟩) (h := ?_); rotate_left
         ·intro w hSw; (try dsimp only at hSw); go_simp; (try with_reducible rfl)
         simp only [pU]
         refine ready_at (i := 8) rfl (by kernel_rfl) (fun KK hKK => ?_)
         go_simp
         have hgo := bz1
         refine (unhide CM _ hgo).mono ?_
         rintro e wz27_2 ⟨rfl, bb⟩
         have bz2 : Below w28.heap.size w28 wz27_2 := bz1.trans (bb.mono bz1.size)
         clear bz1 hgo bb
         clear hHeld
         refine hKK.out _ _ (unhide K _ bz2) (fun hHeld => ?_)
         clear hKK KK
         refine tk 12 237 (v := ?_) rfl (hy := .inl ⟨by rfl, ?_⟩) (h := ?_); rotate_left
         ·intro w hSw; (try dsimp only at hSw); go_simp; (try with_reducible rfl)
         simp only [pU]
         refine tk 13 238 (v := ?_) rfl (hy := .inl ⟨by rfl, ?_⟩) (h := ?_); rotate_left
         ·intro w hSw; (try dsimp only at hSw); go_simp; (try with_reducible rfl)
         simp only [pU]
         refine tk 14 2 (v := ?_) rfl (hy := .inl ⟨by rfl, ?_⟩) (h := ?_); rotate_left
         ·intro w hSw; (try dsimp only at hSw); go_simp; (try with_reducible rfl)
         simp only [pU]
         clear hHeld
         refine wpAnyH_done (by kernel_rfl) ?_ _
         refine NoPanic.normal ?_
         have bb := bz2
         have Bwz27_2 := Bw28.trans (bb.mono Bw28.size)
         have swz27_2 := bb.size
         replace LA := LA.below bb LA.lt
         replace LB := LB.below bb LB.lt
         replace LJ := LJ.below bb LJ.lt
         replace LC := LC.below bb LC.lt
         replace LP := LP.below bb LP.lt
         replace LD := LD.below bb LD.lt
         replace LX := LX.below bb LX.lt
         replace LG := LG.below bb LG.lt
         clear Bw28
         replace OA := hide ((unhide OA).below bb (Nat.le_refl _))
         replace OB := hide ((unhide OB).below bb (Nat.le_refl _))
         replace OJ := hide ((unhide OJ).below bb (Nat.le_refl _))
         replace TP := hide ((unhide TP).below bb (Nat.le_refl _))
         replace OP := hide ((unhide OP).below bb (Nat.le_refl _))
         replace TT := hide ((unhide TT).below bb (Nat.le_refl _))
         replace OX := hide ((unhide OX).below bb (Nat.le_refl _))
         replace OG3 := hide ((unhide OG3).below bb (Nat.le_refl _))
         clear bb bz2 K
         go_wp2
         go_ret
         exact ⟨by simp, Bwz27_2⟩
      ·have cLA0 := LA.cell 0 rfl
       have cLA1 := LA.cell 1 rfl
       have cLA2 := LA.cell 2 rfl
       have cLB0 := LB.cell 0 rfl
       have cLB1 := LB.cell 1 rfl
       have cLB2 := LB.cell 2 rfl
       go_wp2_with fail
       refine (unhide IJ2 _ (unhide OA) (unhide OB) (unhide GE _ Bw26) trivial).mono ?_
       rintro _ w27 ⟨ui, rfl, OI2, bb⟩
       clear cLA0 cLA1 cLA2 cLB0 cLB1 cLB2
       have Bw27 := Bw26.trans (bb.mono Bw26.size)
       have sw27 := bb.size
       replace LA := LA.below bb LA.lt
       replace LB := LB.below bb LB.lt
       replace LJ := LJ.below bb LJ.lt
       replace LC := LC.below bb LC.lt
       replace LP := LP.below bb LP.lt
       replace LD := LD.below bb LD.lt
       replace LX := LX.below bb LX.lt
       clear Bw26
       replace OA := hide ((unhide OA).below bb (Nat.le_refl _))
       replace OB := hide ((unhide OB).below bb (Nat.le_refl _))
       replace OJ := hide ((unhide OJ).below bb (Nat.le_refl _))
       replace TP := hide ((unhide TP).below bb (Nat.le_refl _))
       replace OP := hide ((unhide OP).below bb (Nat.le_refl _))
       replace TT := hide ((unhide TT).below bb (Nat.le_refl _))
       replace OX := hide ((unhide OX).below bb (Nat.le_refl _))
       clear bb
       clear IJ2
       replace OI2 := OI.ri OI2 (by omega)
       obtain ⟨aI, cI, rfl⟩ := OI2.form
       replace OI2 := hide OI2
       go_upto_region 22 with fail
       obtain ⟨w28, hw28⟩ : ∃ y, w27.alloc (.cells #[.int .i64 jv, .string js, .slice aI (jl).length cI] 52) = y := ⟨_, rfl⟩
       have bb : Below w27.heap.size w27 w28 := hw28 ▸ qalloc _ _
       have LI : Loc w28 w27.heap.size #[.int .i64 jv, .string js, .slice aI (jl).length cI] := hw28 ▸ loc_at w27 _ _ rfl
       have zw28 : w27.heap.size + 1 ≤ w28.heap.size := by rw [← hw28]; simp
       rw [hw28]
       clear hw28
       have Bw28 := Bw27.trans (bb.mono Bw27.size)
       have sw28 := bb.size
       replace LA := LA.below bb LA.lt
       replace LB := LB.below bb LB.lt
       replace LJ := LJ.below bb LJ.lt
       replace LC := LC.below bb LC.lt
       replace LP := LP.below bb LP.lt
       replace LD := LD.below bb LD.lt
       replace LX := LX.below bb LX.lt
       clear Bw27
       replace OA := hide ((unhide OA).below bb (Nat.le_refl _))
       replace OB := hide ((unhide OB).below bb (Nat.le_refl _))
       replace OJ := hide ((unhide OJ).below bb (Nat.le_refl _))
       replace TP := hide ((unhide TP).below bb (Nat.le_refl _))
       replace OP := hide ((unhide OP).below bb (Nat.le_refl _))
       replace TT := hide ((unhide TT).below bb (Nat.le_refl _))
       replace OX := hide ((unhide OX).below bb (Nat.le_refl _))
       replace OI2 := hide ((unhide OI2).below bb (Nat.le_refl _))
       clear bb
       have cLI0 := LI.cell 0 rfl
       have cLI1 := LI.cell 1 rfl
       have cLI2 := LI.cell 2 rfl
       have cLJ0 := LJ.cell 0 rfl
       have cLJ1 := LJ.cell 1 rfl
       have cLJ2 := LJ.cell 2 rfl
       go_wp2_with fail
       refine (samePart_yes jv js (.slice aI (jl).length cI) (.slice aJ (jl).length cJ) jl _ (unhide OI2) (unhide OJ)).mono ?_
       rintro _ w29 ⟨rfl, bb⟩
       clear cLI0 cLI1 cLI2 cLJ0 cLJ1 cLJ2
       have Bw29 := Bw28.trans (bb.mono Bw28.size)
       have sw29 := bb.size
       replace LA := LA.below bb LA.lt
       replace LB := LB.below bb LB.lt
       replace LJ := LJ.below bb LJ.lt
       replace LC := LC.below bb LC.lt
       replace LP := LP.below bb LP.lt
       replace LD := LD.below bb LD.lt
       replace LX := LX.below bb LX.lt
       replace LI := LI.below bb LI.lt
       clear Bw28
       replace OA := hide ((unhide OA).below bb (Nat.le_refl _))
       replace OB := hide ((unhide OB).below bb (Nat.le_refl _))
       replace OJ := hide ((unhide OJ).below bb (Nat.le_refl _))
       replace TP := hide ((unhide TP).below bb (Nat.le_refl _))
       replace OP := hide ((unhide OP).below bb (Nat.le_refl _))
       replace TT := hide ((unhide TT).below bb (Nat.le_refl _))
       replace OX := hide ((unhide OX).below bb (Nat.le_refl _))
       replace OI2 := hide ((unhide OI2).below bb (Nat.le_refl _))
       clear bb
       as_aux_lemma =>
        cases put
        ·have hrt := hide ((unhide AF).2 rfl)
         go_wp2_with fail
         refine (sameTable_yes (.slice aTT (rt).length cTT) (.slice aT (ps).length cT) ps _ (by omega) (by rw [← unhide hrt]; exact unhide TT) (unhide TP)).mono ?_
         rintro _ w30 ⟨rfl, bb⟩
         have Bw30 := Bw29.trans (bb.mono Bw29.size)
         have sw30 := bb.size
         replace LA := LA.below bb LA.lt
         replace LB := LB.below bb LB.lt
         replace LJ := LJ.below bb LJ.lt
         replace LC := LC.below bb LC.lt
         replace LP := LP.below bb LP.lt
         replace LD := LD.below bb LD.lt
         replace LX := LX.below bb LX.lt
         replace LI := LI.below bb LI.lt
         clear Bw29
         replace OA := hide ((unhide OA).below bb (Nat.le_refl _))
         replace OB := hide ((unhide OB).below bb (Nat.le_refl _))
         replace OJ := hide ((unhide OJ).below bb (Nat.le_refl _))
         replace TP := hide ((unhide TP).below bb (Nat.le_refl _))
         replace OP := hide ((unhide OP).below bb (Nat.le_refl _))
         replace TT := hide ((unhide TT).below bb (Nat.le_refl _))
         replace OX := hide ((unhide OX).below bb (Nat.le_refl _))
         replace OI2 := hide ((unhide OI2).below bb (Nat.le_refl _))
         clear bb
         go_wp2
         go_ret
         exact ⟨rfl, Bw30⟩
        ·obtain ⟨htk, hcm⟩ := (unhide AF).1 rfl
         have hgg := hide (smp_get (unhide S2) vp sp)
         have IG2 := hide fun w' (h : RPt w' (.slice aTT (rt).length cTT) rt) => implTableGet (.slice aTT (rt).length cTT) rt vp sp w' (by have := unhide HL3; omega) (by omega) (fun p hp => by have := unhide S2 p hp; omega) h
         have HK := hide htk
         have HC := hide hcm
         clear htk hcm AF
         generalize getP rt vp sp = gg at *
         have cLP0 := LP.cell 0 rfl
         have cLP1 := LP.cell 1 rfl
         have cLP2 := LP.cell 2 rfl
         go_wp2_with fail
         refine (unhide IG2 _ (unhide TT)).mono ?_
         rintro _ w30 ⟨ug3, rfl, OG3, bb⟩
         clear cLP0 cLP1 cLP2
         have Bw30 := Bw29.trans (bb.mono Bw29.size)
         have sw30 := bb.size
         replace LA := LA.below bb LA.lt
         replace LB := LB.below bb LB.lt
         replace LJ := LJ.below bb LJ.lt
         replace LC := LC.below bb LC.lt
         replace LP := LP.below bb LP.lt
         replace LD := LD.below bb LD.lt
         replace LX := LX.below bb LX.lt
         replace LI := LI.below bb LI.lt
         clear Bw29
         replace OA := hide ((unhide OA).below bb (Nat.le_refl _))
         replace OB := hide ((unhide OB).below bb (Nat.le_refl _))
         replace OJ := hide ((unhide OJ).below bb (Nat.le_refl _))
         replace TP := hide ((unhide TP).below bb (Nat.le_refl _))
         replace OP := hide ((unhide OP).below bb (Nat.le_refl _))
         replace TT := hide ((unhide TT).below bb (Nat.le_refl _))
         replace OX := hide ((unhide OX).below bb (Nat.le_refl _))
         replace OI2 := hide ((unhide OI2).below bb (Nat.le_refl _))
         clear bb
         clear IG2
         replace OG3 := OI.ri OG3 (by have := unhide hgg; omega)
         obtain ⟨aG3, cG3, rfl⟩ := OG3.form
         replace OG3 := hide OG3
         go_upto_region 27 with fail
         obtain ⟨w31, hw31⟩ : ∃ y, w30.alloc (.cells #[.int .i64 gg.1, .string gg.2.1, .slice aG3 (gg.2.2).length cG3] 52) = y := ⟨_, rfl⟩
         have bb : Below w30.heap.size w30 w31 := hw31 ▸ qalloc _ _
         have LG : Loc w31 w30.heap.size #[.int .i64 gg.1, .string gg.2.1, .slice aG3 (gg.2.2).length cG3] := hw31 ▸ loc_at w30 _ _ rfl
         have zw31 : w30.heap.size + 1 ≤ w31.heap.size := by rw [← hw31]; simp
         rw [hw31]
         clear hw31
         have Bw31 := Bw30.trans (bb.mono Bw30.size)
         have sw31 := bb.size
         replace LA := LA.below bb LA.lt
         replace LB := LB.below bb LB.lt
         replace LJ := LJ.below bb LJ.lt
         replace LC := LC.below bb LC.lt
         replace LP := LP.below bb LP.lt
         replace LD := LD.below bb LD.lt
         replace LX := LX.below bb LX.lt
         replace LI := LI.below bb LI.lt
         clear Bw30
         replace OA := hide ((unhide OA).below bb (Nat.le_refl _))
         replace OB := hide ((unhide OB).below bb (Nat.le_refl _))
         replace OJ := hide ((unhide OJ).below bb (Nat.le_refl _))
         replace TP := hide ((unhide TP).below bb (Nat.le_refl _))
         replace OP := hide ((unhide OP).below bb (Nat.le_refl _))
         replace TT := hide ((unhide TT).below bb (Nat.le_refl _))
         replace OX := hide ((unhide OX).below bb (Nat.le_refl _))
         replace OI2 := hide ((unhide OI2).below bb (Nat.le_refl _))
         replace OG3 := hide ((unhide OG3).below bb (Nat.le_refl _))
         clear bb
         have TK := hide fun w' (hb : Below w31.heap.size w31 w') => implTableOk n f (.slice aTT (rt).length cTT) rt w' (by have := unhide HL3; omega) (fun p hp => by have := unhide S2 p hp; omega) (unhide HE w' (Bw31.trans (hb.mono Bw31.size))) ((unhide TT).below hb (Nat.le_refl _))
         rw [unhide HK] at TK
         have CM := hide fun w' (hb : Below w31.heap.size w31 w') => implCommon (.slice aP (xp).length cP) (.slice aG3 (gg.2.2).length cG3) xp gg.2.2 w' ((unhide OP).below hb (Nat.le_refl _)) ((unhide OG3).below hb (Nat.le_refl _)) (unhide hwp) (unhide hgg).2
         rw [unhide HC] at CM
         have eL : ((xp.length : Int) == (xp.length : Int)) = true := by simp
         have eN : (xp.length == xp.length) = true := by simp
         have K : Hid (∀ w', Below w31.heap.size w31 w' → (fun w' => Below w31.heap.size w31 w' ∧ (w'.cell? ⟨w8.heap.size, 0, none⟩ = some (.int .i64 n) ∧ w'.cell? ⟨w8.heap.size, 1, none⟩ = some (.int .i64 f)) ∧ (w'.cell? ⟨w8.heap.size + 1, 0, none⟩ = some (.int .i64 vp) ∧ w'.cell? ⟨w8.heap.size + 1, 1, none⟩ = some (.string sp) ∧ w'.cell? ⟨w8.heap.size + 1, 2, none⟩ = some (.slice aP (xp).length cP)) ∧ (w'.cell? ⟨w30.heap.size, 0, none⟩ = some (.int .i64 gg.1) ∧ w'.cell? ⟨w30.heap.size, 1, none⟩ = some (.string gg.2.1) ∧ w'.cell? ⟨w30.heap.size, 2, none⟩ = some (.slice aG3 (gg.2.2).length cG3))) w') := hide fun w' hb' => ⟨hb', ⟨(LC.below hb' LC.lt).cell 0 rfl, (LC.below hb' LC.lt).cell 1 rfl⟩, ⟨(LP.below hb' LP.lt).cell 0 rfl, (LP.below hb' LP.lt).cell 1 rfl, (LP.below hb' LP.lt).cell 2 rfl⟩, ⟨(LG.below hb' LG.lt).cell 0 rfl, (LG.below hb' LG.lt).cell 1 rfl, (LG.below hb' LG.lt).cell 2 rfl⟩⟩
         have bA : Below w31.heap.size w31 w31.drew := Below.drew (Below.refl _ _)
         refine wp_region_noPanic ?_
         refine wp_region_held_drew (S := fun w' => Below w31.heap.size w31 w' ∧ (w'.cell? ⟨w8.heap.size, 0, none⟩ = some (.int .i64 n) ∧ w'.cell? ⟨w8.heap.size, 1, none⟩ = some (.int .i64 f)) ∧ (w'.cell? ⟨w8.heap.size + 1, 0, none⟩ = some (.int .i64 vp) ∧ w'.cell? ⟨w8.heap.size + 1, 1, none⟩ = some (.string sp) ∧ w'.cell? ⟨w8.heap.size + 1, 2, none⟩ = some (.slice aP (xp).length cP)) ∧ (w'.cell? ⟨w30.heap.size, 0, none⟩ = some (.int .i64 gg.1) ∧ w'.cell? ⟨w30.heap.size, 1, none⟩ = some (.string gg.2.1) ∧ w'.cell? ⟨w30.heap.size, 2, none⟩ = some (.slice aG3 (gg.2.2).length cG3))) (by kernel_rfl) (unhide K _ bA) (fun hHeld => ?_)
         refine tk 0 225 (v := ?_) rfl (hy := .inl ⟨by rfl, ?_⟩) (h := ?_); rotate_left
         ·intro w hSw; (try dsimp only at hSw); go_simp; (try with_reducible rfl)
         simp only [pU]
         refine tk 1 226 (v := ?_) rfl (hy := .inl ⟨by rfl, ?_⟩) (h := ?_); rotate_left
         ·intro w hSw; (try dsimp only at hSw); go_simp; (try with_reducible rfl)
         simp only [pU]
         refine ready_at (i := 2) rfl (by kernel_rfl) (fun KK hKK => ?_)
         go_simp
         have hgo := bA
         refine (unhide TK _ hgo).mono ?_
         rintro e wz27_1 ⟨rfl, bb⟩
         have bz1 : Below w31.heap.size w31 wz27_1 := bA.trans (bb.mono bA.size)
         clear bA hgo bb
         clear hHeld
         refine hKK.out _ _ (unhide K _ bz1) (fun hHeld => ?_)
         clear hKK KK
         refine tk 3 228 (v := ?_) rfl (hy := .inl ⟨by rfl, ?_⟩) (h := ?_); rotate_left
         ·intro w hSw; (try dsimp only at hSw); go_simp; (try with_reducible rfl)
         simp only [pU]
         refine tk 4 229 (v := ?_) rfl (hy := .inl ⟨by rfl, ?_⟩) (h := ?_); rotate_left
         ·intro w hSw; (try dsimp only at hSw); go_simp; (try with_reducible rfl)
         simp only [pU]
         refine tk 6 231 (v := ?_) rfl (hy := .inl ⟨by rfl, ?_⟩) (h := ?_); rotate_left
         ·intro w hSw; (try dsimp only at hSw); go_simp; (try with_reducible rfl)
         simp only [pU]
         refine tk 9 234 (v := ?_) rfl (hy := .inl ⟨by rfl, ?_⟩) (h := ?_); rotate_left
         ·intro w hSw; (try dsimp only at hSw); go_simp; (try with_reducible rfl)
         simp only [pU]
         refine tk 5 230 (v := ?_) rfl (hy := .inl ⟨by rfl, ?_⟩) (h := ?_); rotate_left
         ·intro w hSw; (try dsimp only at hSw); go_simp; (try with_reducible rfl)
         simp only [pU]
         refine tk 7 232 (v := ?_) rfl (hy := .inl ⟨by rfl, ?_⟩) (h := ?_); rotate_left
         ·intro w hSw; (try dsimp only at hSw); go_simp; (try with_reducible rfl)
         simp only [pU]
         refine tk 10 235 (v := ?_) rfl (hy := .inl ⟨by rfl, ?_⟩) (h := ?_); rotate_left
         ·intro w hSw; (try dsimp only at hSw); go_simp; (try with_reducible rfl)
         simp only [pU]
         refine tk 11 236 (v := ?_) rfl (hy := .inl ⟨by rfl, ?_⟩) (h := ?_); rotate_left
         ·intro w hSw; (try dsimp only at hSw); go_simp; (try with_reducible rfl)
         simp only [pU]
         refine ready_at (i := 8) rfl (by kernel_rfl) (fun KK hKK => ?_)
         go_simp
         have hgo := bz1
         refine (unhide CM _ hgo).mono ?_
         rintro e wz27_2 ⟨rfl, bb⟩
         have bz2 : Below w31.heap.size w31 wz27_2 := bz1.trans (bb.mono bz1.size)
         clear bz1 hgo bb
         clear hHeld
         refine hKK.out _ _ (unhide K _ bz2) (fun hHeld => ?_)
         clear hKK KK
         refine tk 12 237 (v := ?_) rfl (hy := .inl ⟨by rfl, ?_⟩) (h := ?_); rotate_left
         ·intro w hSw; (try dsimp only at hSw); go_simp; (try with_reducible rfl)
         simp only [pU]
         refine tk 13 238 (v := ?_) rfl (hy := .inl ⟨by rfl, ?_⟩) (h := ?_); rotate_left
         ·intro w hSw; (try dsimp only at hSw); go_simp; (try with_reducible rfl)
         simp only [pU]
         refine tk 14 2 (v := ?_) rfl (hy := .inl ⟨by rfl, ?_⟩) (h := ?_); rotate_left
         ·intro w hSw; (try dsimp only at hSw); go_simp; (try with_reducible rfl)
         simp only [pU]
         clear hHeld
         refine wpAnyH_done (by kernel_rfl) ?_ _
         refine NoPanic.normal ?_
         have bb := bz2
         have Bwz27_2 := Bw31.trans (bb.mono Bw31.size)
         have swz27_2 := bb.size
         replace LA := LA.below bb LA.lt
         replace LB := LB.below bb LB.lt
         replace LJ := LJ.below bb LJ.lt
         replace LC := LC.below bb LC.lt
         replace LP := LP.below bb LP.lt
         replace LD := LD.below bb LD.lt
         replace LX := LX.below bb LX.lt
         replace LI := LI.below bb LI.lt
         replace LG := LG.below bb LG.lt
         clear Bw31
         replace OA := hide ((unhide OA).below bb (Nat.le_refl _))
         replace OB := hide ((unhide OB).below bb (Nat.le_refl _))
         replace OJ := hide ((unhide OJ).below bb (Nat.le_refl _))
         replace TP := hide ((unhide TP).below bb (Nat.le_refl _))
         replace OP := hide ((unhide OP).below bb (Nat.le_refl _))
         replace TT := hide ((unhide TT).below bb (Nat.le_refl _))
         replace OX := hide ((unhide OX).below bb (Nat.le_refl _))
         replace OI2 := hide ((unhide OI2).below bb (Nat.le_refl _))
         replace OG3 := hide ((unhide OG3).below bb (Nat.le_refl _))
         clear bb bz2 K
         go_wp2
         go_ret
         exact ⟨by simp, Bwz27_2⟩

set_option maxHeartbeats 8000000 in
set_option maxRecDepth 100000 in
theorem fnParts_long (ao : Option Addr) (n ca : Nat) (w : World) (h : 1048576 < n) (hm : n ≤ maxLen) :
 Calls Tryz.prog 4 #[.slice ao n ca] w fun e w' => e = .returned (.bool true) ∧ Below w.heap.size w w' := by
 have BG := hide fun w => big_any ao n ca w (by unfold maxLen at hm; omega)
 rw [decide_eq_true h] at BG
 go_enter Tryz.func4, Tryz.ntmps4
 go_wp2_with fail
 refine (unhide BG _).mono ?_
 rintro _ w1 ⟨rfl, b1⟩
 go_wp2
 go_ret
 exact ⟨rfl, b1⟩
theorem fnParts_walk (ao : Option Addr) (ca : Nat) (zs : List Int) (a : Addr) (w : World) (hm : zs.length ≤ maxLen) (hx : zs = [] ∨ ∃ b off, ao = some ⟨b, off, none⟩ ∧ ∀ k, k < zs.length → w.cell? ⟨b, off + k, none⟩ = some (.int .u8 (zs.getD k 0))) (hb : ∀ k, k < zs.length → 0 ≤ zs.getD k 0 ∧ zs.getD k 0 ≤ 255) (hE : Env w) (G : Gv w a) :
 Calls Tryz.prog 4 #[.slice ao zs.length ca] w fun e w' => e = .returned (.bool true) ∧ Below w.heap.size w w' := by
 by_cases h : zs.length ≤ 1048576
 ·exact fnParts_short ao ca zs a w ⟨h, hx, hb⟩ hE G
 ·exact fnParts_long ao zs.length ca w (by omega) hm
end Go.Proofs.YtmpmedbojfjnaaaGreatDoor
