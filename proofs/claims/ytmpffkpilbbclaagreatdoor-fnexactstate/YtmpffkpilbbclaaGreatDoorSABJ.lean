/- Lemmas; their conditions stand in each statement. -/
import Derived.Test.YtmpffkpilbbclaaGreatDoorSABI
set_option maxRecDepth 100000
set_option maxHeartbeats 16000000
set_option linter.unusedSectionVars false
namespace Go.Proofs.YtmpffkpilbbclaaGreatDoor
section
open Go.RowKit
variable [∀ (a b c d : Int), Decidable (Ok4 a b c d)]
variable [∀ (m a b c d : Int), Decidable (In4 m a b c d)]
variable [∀ (xs ys : List Int), Decidable (LOk xs ys)]
theorem specPay_done (u v : Value) (A Bt : Nat) (c d : Int) (xs ys : List Int) (w : World) (hu : RI w u xs ∧ RI w v ys) (hA : A < 4) (ho : Ok4 A Bt c d) (hl : LOk xs ys) (m r : Int) (x2 y1 : List Int) (hB : Bt < 4) (hn : ys.getD A 0 = d) (hm0 : xs.getD A 0 = m) (hr0 : (xs.set A (m - c)).getD Bt 0 = r) (hx2 : ((xs.set A (m - c)).set Bt (r + c)) = x2) (hy1 : (ys.set A (d + 1)) = y1) (h : c ≤ m) (hm : m ≤ 400) (hr : 0 ≤ r ∧ r ≤ 400) (hq : decide (LOk x2 y1) = true) :
 Calls Tryz.prog 75 #[lv u v, txv A Bt c d] w (PayEnd w (x2, y1, 0)) := by
 have hx2:=hide hx2
 have hy1:=hide hy1
 have HR0:=hide hr0
 have HQ:=hide hq
 clear hr0 hq
 have RU:=hide hu
 have LC:=hide fun w h => l3Copy_any u v xs ys w h
 have LO:=hide fun w h => specLedgerOk u v xs ys w h
 rw [decide_eq_true hl] at LO
 have TO:=hide fun w => specTxOk_yes A Bt c d w ho
 have hx4:=hl.1
 have hy4:=hl.2.1
 obtain ⟨g1, o1, c1, rfl, H1⟩:=RI.at4 hu.1 hx4
 obtain ⟨g2, o2, c2, rfl, H2⟩:=RI.at4 hu.2 hy4
 have RX:=hide fun w' (hb : Below w.heap.size w w') => (hb.cell (cell_lt (H1 A hA))).trans (H1 A hA)
 have RY:=hide fun w' (hb : Below w.heap.size w w') => (hb.cell (cell_lt (H2 A hA))).trans (H2 A hA)
 clear H1 H2 hu hl
 obtain ⟨w0, hw0⟩ : ∃ w0, ((w.alloc (.cells #[.slice (some ⟨g1, o1, none⟩) 4 c1,.slice (some ⟨g2, o2, none⟩) 4 c2] 60)).alloc (.cells (r4 A Bt c d) 119)).alloc (.cells #[.slice none 0 0,.slice none 0 0] 60) = w0:=⟨_, rfl⟩
 have B0 : Below w.heap.size w w0:=hw0 ▸ (((Below.refl w.heap.size w).alloc (Nat.le_refl _) _).alloc (by simp) _).alloc (by simp; omega) _
 have L0 : Loc w0 w.heap.size #[.slice (some ⟨g1, o1, none⟩) 4 c1,.slice (some ⟨g2, o2, none⟩) 4 c2]:=hw0 ▸ ((loc_at w _ _ rfl).alloc _).alloc _
 have X0 : Loc w0 (w.heap.size + 1) (r4 A Bt c d):=hw0 ▸ (loc_at _ _ _ (by simp)).alloc _
 have R0 : Loc w0 (w.heap.size + 1 + 1) #[.slice none 0 0,.slice none 0 0]:=hw0 ▸ loc_at _ _ _ (by simp)
 have q0:=L0.cell 0 rfl
 have q1:=L0.cell 1 rfl
 have lr:=R0.lt
 go_enter Tryz.func75, Tryz.ntmps75
 go_wp2_with fail
 clear hw0 q0 q1
 refine (LC.out _ ⟨RU.out.1.below B0, RU.out.2.below B0⟩).mono ?_
 rintro _ w1 ⟨uo, vo, rfl, ol, b1⟩
 have s1:=b1.size
 obtain ⟨ph, hc, rfl⟩:=own_form (n:=xs.length) ol.has (by omega)
 obtain ⟨pk, kc, rfl⟩:=own_form (n:=ys.length) ol.next (by omega)
 rw [hx4, hy4] at ol ⊢
 obtain ⟨w2, hw2⟩ : ∃ w2, w1.alloc (.cells #[(.slice (some ⟨ph, 0, none⟩) 4 hc), (.slice (some ⟨pk, 0, none⟩) 4 kc)] 60) = w2:=⟨_, rfl⟩
 have b2 : Below w0.heap.size w0 w2:=hw2 ▸ b1.alloc b1.size _
 have B2:=bu B0 b2
 have L2:=L0.up b2
 have X2:=X0.up b2
 have R2:=R0.up b2
 have O2 : Loc w2 w1.heap.size #[(.slice (some ⟨ph, 0, none⟩) 4 hc), (.slice (some ⟨pk, 0, none⟩) 4 kc)]:=hw2 ▸ loc_at w1 _ _ rfl
 have ol2 : OL w2 w0.heap.size w1.heap.size (.slice (some ⟨ph, 0, none⟩) 4 hc) (.slice (some ⟨pk, 0, none⟩) 4 kc) xs ys:=hw2 ▸ ol.alloc _
 have q0:=L2.cell 0 rfl
 have q1:=L2.cell 1 rfl
 clear ol b1 b2 B0 L0 X0 R0
 go_wp2_with fail
 clear hw2 q0 q1
 refine (LO.out _ ⟨RU.out.1.below B2, RU.out.2.below B2⟩).mono ?_
 rintro _ w3 ⟨rfl, b3⟩
 have B3:=bu B2 b3
 have L3:=L2.up b3
 have X3:=X2.up b3
 have R3:=R2.up b3
 have O3:=O2.up b3
 have ol3:=ol2.below b3
 obtain ⟨t0, t1, t2, t3⟩:=X3.cells4
 clear LO b3 B2 L2 X2 R2 O2 ol2
 go_wp2_with fail
 refine (TO.out _).mono ?_
 rintro _ w4 ⟨rfl, b4⟩
 have B4:=bu B3 b4
 have L4:=L3.up b4
 have X4:=X3.up b4
 have R4:=R3.up b4
 have O4:=O3.up b4
 have ol4:=ol3.below b4
 have hA1 : (A : Int) < 4:=by omega
 have lo4:=O4.lt
 have e1:=(World.ownsRow.lt ol4.has ph rfl).1
 have e2:=(World.ownsRow.lt ol4.next pk rfl).1
 have e3:=ol4.top ph rfl
 have e4:=ol4.top' pk rfl
 have e5 : pk ≠ ph:=fun e => ol4.ne ph rfl (by rw [e]; rfl)
 clear TO t0 t1 t2 t3 b4 B3 L3 X3 R3 O3 ol3
 rw [hn] at RY
 have ho1 : 0 ≤ d ∧ d ≤ 99:=by unfold Ok4 at ho; omega
 have ho2 : 0 ≤ c ∧ c ≤ 1000:=by unfold Ok4 at ho; omega
 obtain ⟨t0, t1, t2, t3⟩:=X4.cells4
 have p0:=L4.cell 0 rfl
 have p1:=L4.cell 1 rfl
 have ry:=RY.out _ B4
 have rx:=RX.out _ B4
 go_wp2_with fail
 go_quiet (fail)
 go_wp2_with fail
 go_quiet (fail)
 generalize hwd : World.drewN (World.drewN w4 _) _ = w5
 have B5 : Below w.heap.size w w5:=hwd ▸ (below_drewN' (below_drewN' B4 _) _)
 have L5 : Loc w5 _ _:=hwd ▸ ((L4.drewN _).drewN _)
 have X5 : Loc w5 _ _:=hwd ▸ ((X4.drewN _).drewN _)
 have R5 : Loc w5 _ _:=hwd ▸ ((R4.drewN _).drewN _)
 have O5 : Loc w5 _ _:=hwd ▸ ((O4.drewN _).drewN _)
 have ol5 : OL w5 w0.heap.size w1.heap.size (.slice (some ⟨ph, 0, none⟩) 4 hc) (.slice (some ⟨pk, 0, none⟩) 4 kc) xs ys:=hwd ▸ ol4.below (below_drewN' (below_drewN' (Below.refl _ _) _) _)
 clear hwd B4 L4 X4 R4 O4 ol4 t0 t1 t2 t3 p0 p1 ry rx
 obtain ⟨n5, f5⟩:=ol5.next.cellAt hy4.symm A (by omega)
 rw [hn] at n5
 obtain ⟨t0, t1, t2, t3⟩:=X5.cells4
 have yy:=O5.cell 1 rfl
 obtain ⟨w6, hw6⟩ : ∃ w6, w5.setCell ⟨pk, A, none⟩ (.int .i64 (d + 1)) = w6:=⟨_, rfl⟩
 have B6 : Below w.heap.size w w6:=hw6 ▸ Below.set B5 _ _ (by omega)
 have L6 : Loc w6 _ _:=hw6 ▸ L5.other (by simp; omega) _
 have X6 : Loc w6 _ _:=hw6 ▸ X5.other (by simp; omega) _
 have R6 : Loc w6 _ _:=hw6 ▸ R5.other (by simp; omega) _
 have O6 : Loc w6 _ _:=hw6 ▸ O5.other (by simp; omega) _
 have ol6 : OL w6 w0.heap.size w1.heap.size (.slice (some ⟨ph, 0, none⟩) 4 hc) (.slice (some ⟨pk, 0, none⟩) 4 kc) xs (ys.set A (d + 1)):=hw6 ▸ ol5.setNext hy4.symm A (d + 1)
 go_wp2_with fail
 clear hw6 n5 f5 t0 t1 t2 t3 yy B5 L5 X5 R5 O5 ol5
 rw [hm0] at RX
 obtain ⟨t0, t1, t2, t3⟩:=X6.cells4
 have p0:=L6.cell 0 rfl
 have p1:=L6.cell 1 rfl
 have ry:=RY.out _ B6
 have rx:=RX.out _ B6
 go_quiet (fail)
 generalize hwd : World.drewN w6 _ = w7
 have B7 : Below w.heap.size w w7:=hwd ▸ (below_drewN' B6 _)
 have L7 : Loc w7 _ _:=hwd ▸ (L6.drewN _)
 have X7 : Loc w7 _ _:=hwd ▸ (X6.drewN _)
 have R7 : Loc w7 _ _:=hwd ▸ (R6.drewN _)
 have O7 : Loc w7 _ _:=hwd ▸ (O6.drewN _)
 have ol7 : OL w7 w0.heap.size w1.heap.size (.slice (some ⟨ph, 0, none⟩) 4 hc) (.slice (some ⟨pk, 0, none⟩) 4 kc) xs (ys.set A (d + 1)):=hwd ▸ ol6.below (below_drewN' (Below.refl _ _) _)
 clear hwd B6 L6 X6 R6 O6 ol6 t0 t1 t2 t3 p0 p1 ry rx RX
 have wr1 : IntKind.i64.wrap (m - c) = m - c:=by rw [IntKind.wrap_i64]; omega
 obtain ⟨m7, f7⟩:=ol7.has.cellAt hx4.symm A (by omega)
 rw [hm0] at m7
 obtain ⟨w8, hw8⟩ : ∃ x, (w7.setCell ⟨ph, A, none⟩ (.int .i64 (m - c))).drew = x:=⟨_, rfl⟩
 have B8 : Below w.heap.size w w8:=hw8 ▸ Below.drew (Below.set B7 _ _ (by omega))
 have L8 : Loc w8 w.heap.size #[.slice (some ⟨g1, o1, none⟩) 4 c1,.slice (some ⟨g2, o2, none⟩) 4 c2]:=by rw [← hw8]; exact L7.other (p:=⟨ph, A, none⟩) (by simp; omega) _
 have X8 : Loc w8 (w.heap.size + 1) (r4 A Bt c d):=by rw [← hw8]; exact X7.other (p:=⟨ph, A, none⟩) (by simp; omega) _
 have R8 : Loc w8 (w.heap.size + 1 + 1) #[.slice none 0 0,.slice none 0 0]:=by rw [← hw8]; exact R7.other (p:=⟨ph, A, none⟩) (by simp; omega) _
 have O8 : Loc w8 w1.heap.size #[(.slice (some ⟨ph, 0, none⟩) 4 hc), (.slice (some ⟨pk, 0, none⟩) 4 kc)]:=by rw [← hw8]; exact O7.other (p:=⟨ph, A, none⟩) (by simp; omega) _
 have ol8 : OL w8 w0.heap.size w1.heap.size (.slice (some ⟨ph, 0, none⟩) 4 hc) (.slice (some ⟨pk, 0, none⟩) 4 kc) (xs.set A (m - c)) (ys.set A (d + 1)):=hw8 ▸ (ol7.setHas hx4.symm A (m - c)).below (Below.drew (Below.refl _ _))
 go_wp2_with fail
 refine wp_region_noPanic ?_
 refine wp_region_held_drew (S := (fun w' => (w'.cell? ⟨w1.heap.size, 0, none⟩ = some (.slice (some ⟨ph, 0, none⟩) 4 hc) ∧ w'.cell? ⟨w1.heap.size, 1, none⟩ = some (.slice (some ⟨pk, 0, none⟩) 4 kc)) ∧ (w'.cell? ⟨w.heap.size + 1, 0, none⟩ = some (.int .i64 A) ∧ w'.cell? ⟨w.heap.size + 1, 1, none⟩ = some (.int .i64 Bt)) ∧ w'.cell? ⟨w.heap.size + 1, 2, none⟩ = some (.int .i64 c))) (by kernel_rfl) ⟨⟨O7.cell 0 rfl, O7.cell 1 rfl⟩, ⟨X7.cell 0 rfl, X7.cell 1 rfl⟩, X7.cell 2 rfl⟩ (fun hHeld => ?_)
 refine tx 0 59 ?_
 refine tx 1 60 ?_
 refine tx 2 61 ?_
 refine tx 3 62 ?_
 refine tx 4 63 ?_
 refine tx 5 64 ?_
 refine tx 6 65 ?_
 refine tx 7 66 ?_
 refine tx 8 67 ?_
 refine tx 10 69 ?_
 refine tx 11 70 ?_
 refine rd 9 rfl (fun KK hKK => ?_)
 go_simp
 clear hHeld
 refine hKK.out _ _ ⟨⟨O7.cell 0 rfl, O7.cell 1 rfl⟩, ⟨X7.cell 0 rfl, X7.cell 1 rfl⟩, X7.cell 2 rfl⟩ (fun hHeld => ?_)
 clear hKK KK
 refine tx 12 71 ?_
 refine tx 13 72 ?_
 refine rd 14 rfl (fun KK hKK => ?_)
 go_simp
 clear hHeld
 refine hKK.out _ _ ⟨⟨O8.cell 0 rfl, O8.cell 1 rfl⟩, ⟨X8.cell 0 rfl, X8.cell 1 rfl⟩, X8.cell 2 rfl⟩ (fun hHeld => ?_)
 clear hKK KK hHeld hw8 m7 f7
 refine wdn ?_
 clear B7 L7 X7 R7 O7 ol7
 have hx5 : (xs.set A (m - c)).length = 4:=by simpa using hx4
 have hB1 : (Bt : Int) < 4:=by omega
 obtain ⟨m8, f8⟩:=ol8.has.cellAt hx5.symm Bt (by simp; omega)
 rw [HR0.out] at m8
 have wr2 : IntKind.i64.wrap (r + c) = r + c:=by rw [IntKind.wrap_i64]; omega
 obtain ⟨w9, hw9⟩ : ∃ x, (w8.setCell ⟨ph, Bt, none⟩ (.int .i64 (r + c))).drew = x:=⟨_, rfl⟩
 have B9 : Below w.heap.size w w9:=hw9 ▸ Below.drew (Below.set B8 _ _ (by omega))
 have L9 : Loc w9 w.heap.size #[.slice (some ⟨g1, o1, none⟩) 4 c1,.slice (some ⟨g2, o2, none⟩) 4 c2]:=by rw [← hw9]; exact L8.other (p:=⟨ph, Bt, none⟩) (by simp; omega) _
 have X9 : Loc w9 (w.heap.size + 1) (r4 A Bt c d):=by rw [← hw9]; exact X8.other (p:=⟨ph, Bt, none⟩) (by simp; omega) _
 have R9 : Loc w9 (w.heap.size + 1 + 1) #[.slice none 0 0,.slice none 0 0]:=by rw [← hw9]; exact R8.other (p:=⟨ph, Bt, none⟩) (by simp; omega) _
 have O9 : Loc w9 w1.heap.size #[(.slice (some ⟨ph, 0, none⟩) 4 hc), (.slice (some ⟨pk, 0, none⟩) 4 kc)]:=by rw [← hw9]; exact O8.other (p:=⟨ph, Bt, none⟩) (by simp; omega) _
 have ol9 : OL w9 w0.heap.size w1.heap.size (.slice (some ⟨ph, 0, none⟩) 4 hc) (.slice (some ⟨pk, 0, none⟩) 4 kc) ((xs.set A (m - c)).set Bt (r + c)) (ys.set A (d + 1)):=hw9 ▸ (ol8.setHas hx5.symm Bt (r + c)).below (Below.drew (Below.refl _ _))
 go_wp2_with fail
 refine wp_region_noPanic ?_
 refine wp_region_held_drew (S := (fun w' => (w'.cell? ⟨w1.heap.size, 0, none⟩ = some (.slice (some ⟨ph, 0, none⟩) 4 hc) ∧ w'.cell? ⟨w1.heap.size, 1, none⟩ = some (.slice (some ⟨pk, 0, none⟩) 4 kc)) ∧ (w'.cell? ⟨w.heap.size + 1, 0, none⟩ = some (.int .i64 A) ∧ w'.cell? ⟨w.heap.size + 1, 1, none⟩ = some (.int .i64 Bt)) ∧ w'.cell? ⟨w.heap.size + 1, 2, none⟩ = some (.int .i64 c))) (by kernel_rfl) ⟨⟨O8.cell 0 rfl, O8.cell 1 rfl⟩, ⟨X8.cell 0 rfl, X8.cell 1 rfl⟩, X8.cell 2 rfl⟩ (fun hHeld => ?_)
 refine tx 0 73 ?_
 refine tx 1 74 ?_
 refine tx 2 75 ?_
 refine tx 3 76 ?_
 refine tx 4 77 ?_
 refine tx 5 78 ?_
 refine tx 6 79 ?_
 refine tx 7 80 ?_
 refine tx 8 81 ?_
 refine tx 10 83 ?_
 refine tx 11 84 ?_
 refine rd 9 rfl (fun KK hKK => ?_)
 go_simp
 clear hHeld
 refine hKK.out _ _ ⟨⟨O8.cell 0 rfl, O8.cell 1 rfl⟩, ⟨X8.cell 0 rfl, X8.cell 1 rfl⟩, X8.cell 2 rfl⟩ (fun hHeld => ?_)
 clear hKK KK
 refine tx 12 85 ?_
 refine tx 13 86 ?_
 refine rd 14 rfl (fun KK hKK => ?_)
 go_simp
 clear hHeld
 refine hKK.out _ _ ⟨⟨O9.cell 0 rfl, O9.cell 1 rfl⟩, ⟨X9.cell 0 rfl, X9.cell 1 rfl⟩, X9.cell 2 rfl⟩ (fun hHeld => ?_)
 clear hKK KK hHeld hw9 m8 f8
 refine wdn ?_
 clear B8 L8 X8 R8 O8 ol8
 rw [hx2.out, hy1.out] at ol9
 have hx6 : x2.length = 4:=by rw [← hx2.out]; simpa using hx4
 have hy6 : y1.length = 4:=by rw [← hy1.out]; simpa using hy4
 have y0:=O9.cell 0 rfl
 have yy:=O9.cell 1 rfl
 have LO2:=hide fun w h => specLedgerOk (.slice (some ⟨ph, 0, none⟩) 4 hc) (.slice (some ⟨pk, 0, none⟩) 4 kc) x2 y1 w h
 rw [HQ.out] at LO2
 go_wp2_with fail
 refine (LO2.out _ (ol9.ri (by omega) (by omega))).mono ?_
 rintro _ w10 ⟨rfl, b10⟩
 have B10:=bu B9 b10
 have L10:=L9.up b10
 have X10:=X9.up b10
 have R10:=R9.up b10
 have O10:=O9.up b10
 have ol10:=ol9.below b10
 clear y0 yy LO2 b10 B9 L9 X9 R9 O9 ol9
 have q0:=R10.cell 0 rfl
 have q1:=R10.cell 1 rfl
 have FR:=R10.frozen
 have y0:=O10.cell 0 rfl
 have yy:=O10.cell 1 rfl
 go_wp2
 refine bodyPost_ret (v := .tuple #[lv (.slice (some ⟨ph, 0, none⟩) 4 hc) (.slice (some ⟨pk, 0, none⟩) 4 kc),.int .i64 0]) (by simp [results, Tryz.results75, go_sem, q0, q1]) rfl ?_
 have K7 : Kp w10 ((w10.setCell ⟨w.heap.size + 1 + 1, 0, none⟩ (.slice (some ⟨ph, 0, none⟩) 4 hc)).setCell ⟨w.heap.size + 1 + 1, 1, none⟩ (.slice (some ⟨pk, 0, none⟩) 4 kc)) (fun k => k = w.heap.size + 1 + 1):=(set_kp w10 _ 0 _).trans (set_kp _ _ 1 _)
 have sl:=O10.lt
 refine ⟨_, _, rfl, (ol10.kp K7 (fun k h1 h2 e => by omega)).mono (by omega) (by simp; omega), ?_⟩
 exact Below.set (Below.set B10 _ _ (by omega)) _ _ (by omega)
theorem specPay_over (u v : Value) (A Bt : Nat) (c d : Int) (xs ys : List Int) (w : World) (hu : RI w u xs ∧ RI w v ys) (hA : A < 4) (ho : Ok4 A Bt c d) (hl : LOk xs ys) (m r : Int) (x2 y1 : List Int) (hB : Bt < 4) (hn : ys.getD A 0 = d) (hm0 : xs.getD A 0 = m) (hr0 : (xs.set A (m - c)).getD Bt 0 = r) (hx2 : ((xs.set A (m - c)).set Bt (r + c)) = x2) (hy1 : (ys.set A (d + 1)) = y1) (h : c ≤ m) (hm : m ≤ 400) (hr : 0 ≤ r ∧ r ≤ 400) (hq : decide (LOk x2 y1) = false) :
 Calls Tryz.prog 75 #[lv u v, txv A Bt c d] w (PayEnd w (xs, ys, 1)) := by
 have hx2:=hide hx2
 have hy1:=hide hy1
 have HR0:=hide hr0
 have HQ:=hide hq
 clear hr0 hq
 have RU:=hide hu
 have LC:=hide fun w h => l3Copy_any u v xs ys w h
 have LO:=hide fun w h => specLedgerOk u v xs ys w h
 rw [decide_eq_true hl] at LO
 have TO:=hide fun w => specTxOk_yes A Bt c d w ho
 have hx4:=hl.1
 have hy4:=hl.2.1
 obtain ⟨g1, o1, c1, rfl, H1⟩:=RI.at4 hu.1 hx4
 obtain ⟨g2, o2, c2, rfl, H2⟩:=RI.at4 hu.2 hy4
 have RX:=hide fun w' (hb : Below w.heap.size w w') => (hb.cell (cell_lt (H1 A hA))).trans (H1 A hA)
 have RY:=hide fun w' (hb : Below w.heap.size w w') => (hb.cell (cell_lt (H2 A hA))).trans (H2 A hA)
 clear H1 H2 hu hl
 obtain ⟨w0, hw0⟩ : ∃ w0, ((w.alloc (.cells #[.slice (some ⟨g1, o1, none⟩) 4 c1,.slice (some ⟨g2, o2, none⟩) 4 c2] 60)).alloc (.cells (r4 A Bt c d) 119)).alloc (.cells #[.slice none 0 0,.slice none 0 0] 60) = w0:=⟨_, rfl⟩
 have B0 : Below w.heap.size w w0:=hw0 ▸ (((Below.refl w.heap.size w).alloc (Nat.le_refl _) _).alloc (by simp) _).alloc (by simp; omega) _
 have L0 : Loc w0 w.heap.size #[.slice (some ⟨g1, o1, none⟩) 4 c1,.slice (some ⟨g2, o2, none⟩) 4 c2]:=hw0 ▸ ((loc_at w _ _ rfl).alloc _).alloc _
 have X0 : Loc w0 (w.heap.size + 1) (r4 A Bt c d):=hw0 ▸ (loc_at _ _ _ (by simp)).alloc _
 have R0 : Loc w0 (w.heap.size + 1 + 1) #[.slice none 0 0,.slice none 0 0]:=hw0 ▸ loc_at _ _ _ (by simp)
 have q0:=L0.cell 0 rfl
 have q1:=L0.cell 1 rfl
 have lr:=R0.lt
 go_enter Tryz.func75, Tryz.ntmps75
 go_wp2_with fail
 clear hw0 q0 q1
 refine (LC.out _ ⟨RU.out.1.below B0, RU.out.2.below B0⟩).mono ?_
 rintro _ w1 ⟨uo, vo, rfl, ol, b1⟩
 have s1:=b1.size
 obtain ⟨ph, hc, rfl⟩:=own_form (n:=xs.length) ol.has (by omega)
 obtain ⟨pk, kc, rfl⟩:=own_form (n:=ys.length) ol.next (by omega)
 rw [hx4, hy4] at ol ⊢
 obtain ⟨w2, hw2⟩ : ∃ w2, w1.alloc (.cells #[(.slice (some ⟨ph, 0, none⟩) 4 hc), (.slice (some ⟨pk, 0, none⟩) 4 kc)] 60) = w2:=⟨_, rfl⟩
 have b2 : Below w0.heap.size w0 w2:=hw2 ▸ b1.alloc b1.size _
 have B2:=bu B0 b2
 have L2:=L0.up b2
 have X2:=X0.up b2
 have R2:=R0.up b2
 have O2 : Loc w2 w1.heap.size #[(.slice (some ⟨ph, 0, none⟩) 4 hc), (.slice (some ⟨pk, 0, none⟩) 4 kc)]:=hw2 ▸ loc_at w1 _ _ rfl
 have ol2 : OL w2 w0.heap.size w1.heap.size (.slice (some ⟨ph, 0, none⟩) 4 hc) (.slice (some ⟨pk, 0, none⟩) 4 kc) xs ys:=hw2 ▸ ol.alloc _
 have q0:=L2.cell 0 rfl
 have q1:=L2.cell 1 rfl
 clear ol b1 b2 B0 L0 X0 R0
 go_wp2_with fail
 clear hw2 q0 q1
 refine (LO.out _ ⟨RU.out.1.below B2, RU.out.2.below B2⟩).mono ?_
 rintro _ w3 ⟨rfl, b3⟩
 have B3:=bu B2 b3
 have L3:=L2.up b3
 have X3:=X2.up b3
 have R3:=R2.up b3
 have O3:=O2.up b3
 have ol3:=ol2.below b3
 obtain ⟨t0, t1, t2, t3⟩:=X3.cells4
 clear LO b3 B2 L2 X2 R2 O2 ol2
 go_wp2_with fail
 refine (TO.out _).mono ?_
 rintro _ w4 ⟨rfl, b4⟩
 have B4:=bu B3 b4
 have L4:=L3.up b4
 have X4:=X3.up b4
 have R4:=R3.up b4
 have O4:=O3.up b4
 have ol4:=ol3.below b4
 have hA1 : (A : Int) < 4:=by omega
 have lo4:=O4.lt
 have e1:=(World.ownsRow.lt ol4.has ph rfl).1
 have e2:=(World.ownsRow.lt ol4.next pk rfl).1
 have e3:=ol4.top ph rfl
 have e4:=ol4.top' pk rfl
 have e5 : pk ≠ ph:=fun e => ol4.ne ph rfl (by rw [e]; rfl)
 clear TO t0 t1 t2 t3 b4 B3 L3 X3 R3 O3 ol3
 rw [hn] at RY
 have ho1 : 0 ≤ d ∧ d ≤ 99:=by unfold Ok4 at ho; omega
 have ho2 : 0 ≤ c ∧ c ≤ 1000:=by unfold Ok4 at ho; omega
 obtain ⟨t0, t1, t2, t3⟩:=X4.cells4
 have p0:=L4.cell 0 rfl
 have p1:=L4.cell 1 rfl
 have ry:=RY.out _ B4
 have rx:=RX.out _ B4
 go_wp2_with fail
 go_quiet (fail)
 go_wp2_with fail
 go_quiet (fail)
 generalize hwd : World.drewN (World.drewN w4 _) _ = w5
 have B5 : Below w.heap.size w w5:=hwd ▸ (below_drewN' (below_drewN' B4 _) _)
 have L5 : Loc w5 _ _:=hwd ▸ ((L4.drewN _).drewN _)
 have X5 : Loc w5 _ _:=hwd ▸ ((X4.drewN _).drewN _)
 have R5 : Loc w5 _ _:=hwd ▸ ((R4.drewN _).drewN _)
 have O5 : Loc w5 _ _:=hwd ▸ ((O4.drewN _).drewN _)
 have ol5 : OL w5 w0.heap.size w1.heap.size (.slice (some ⟨ph, 0, none⟩) 4 hc) (.slice (some ⟨pk, 0, none⟩) 4 kc) xs ys:=hwd ▸ ol4.below (below_drewN' (below_drewN' (Below.refl _ _) _) _)
 clear hwd B4 L4 X4 R4 O4 ol4 t0 t1 t2 t3 p0 p1 ry rx
 obtain ⟨n5, f5⟩:=ol5.next.cellAt hy4.symm A (by omega)
 rw [hn] at n5
 obtain ⟨t0, t1, t2, t3⟩:=X5.cells4
 have yy:=O5.cell 1 rfl
 obtain ⟨w6, hw6⟩ : ∃ w6, w5.setCell ⟨pk, A, none⟩ (.int .i64 (d + 1)) = w6:=⟨_, rfl⟩
 have B6 : Below w.heap.size w w6:=hw6 ▸ Below.set B5 _ _ (by omega)
 have L6 : Loc w6 _ _:=hw6 ▸ L5.other (by simp; omega) _
 have X6 : Loc w6 _ _:=hw6 ▸ X5.other (by simp; omega) _
 have R6 : Loc w6 _ _:=hw6 ▸ R5.other (by simp; omega) _
 have O6 : Loc w6 _ _:=hw6 ▸ O5.other (by simp; omega) _
 have ol6 : OL w6 w0.heap.size w1.heap.size (.slice (some ⟨ph, 0, none⟩) 4 hc) (.slice (some ⟨pk, 0, none⟩) 4 kc) xs (ys.set A (d + 1)):=hw6 ▸ ol5.setNext hy4.symm A (d + 1)
 go_wp2_with fail
 clear hw6 n5 f5 t0 t1 t2 t3 yy B5 L5 X5 R5 O5 ol5
 rw [hm0] at RX
 obtain ⟨t0, t1, t2, t3⟩:=X6.cells4
 have p0:=L6.cell 0 rfl
 have p1:=L6.cell 1 rfl
 have ry:=RY.out _ B6
 have rx:=RX.out _ B6
 go_quiet (fail)
 generalize hwd : World.drewN w6 _ = w7
 have B7 : Below w.heap.size w w7:=hwd ▸ (below_drewN' B6 _)
 have L7 : Loc w7 _ _:=hwd ▸ (L6.drewN _)
 have X7 : Loc w7 _ _:=hwd ▸ (X6.drewN _)
 have R7 : Loc w7 _ _:=hwd ▸ (R6.drewN _)
 have O7 : Loc w7 _ _:=hwd ▸ (O6.drewN _)
 have ol7 : OL w7 w0.heap.size w1.heap.size (.slice (some ⟨ph, 0, none⟩) 4 hc) (.slice (some ⟨pk, 0, none⟩) 4 kc) xs (ys.set A (d + 1)):=hwd ▸ ol6.below (below_drewN' (Below.refl _ _) _)
 clear hwd B6 L6 X6 R6 O6 ol6 t0 t1 t2 t3 p0 p1 ry rx RX
 have wr1 : IntKind.i64.wrap (m - c) = m - c:=by rw [IntKind.wrap_i64]; omega
 obtain ⟨m7, f7⟩:=ol7.has.cellAt hx4.symm A (by omega)
 rw [hm0] at m7
 obtain ⟨w8, hw8⟩ : ∃ x, (w7.setCell ⟨ph, A, none⟩ (.int .i64 (m - c))).drew = x:=⟨_, rfl⟩
 have B8 : Below w.heap.size w w8:=hw8 ▸ Below.drew (Below.set B7 _ _ (by omega))
 have L8 : Loc w8 w.heap.size #[.slice (some ⟨g1, o1, none⟩) 4 c1,.slice (some ⟨g2, o2, none⟩) 4 c2]:=by rw [← hw8]; exact L7.other (p:=⟨ph, A, none⟩) (by simp; omega) _
 have X8 : Loc w8 (w.heap.size + 1) (r4 A Bt c d):=by rw [← hw8]; exact X7.other (p:=⟨ph, A, none⟩) (by simp; omega) _
 have R8 : Loc w8 (w.heap.size + 1 + 1) #[.slice none 0 0,.slice none 0 0]:=by rw [← hw8]; exact R7.other (p:=⟨ph, A, none⟩) (by simp; omega) _
 have O8 : Loc w8 w1.heap.size #[(.slice (some ⟨ph, 0, none⟩) 4 hc), (.slice (some ⟨pk, 0, none⟩) 4 kc)]:=by rw [← hw8]; exact O7.other (p:=⟨ph, A, none⟩) (by simp; omega) _
 have ol8 : OL w8 w0.heap.size w1.heap.size (.slice (some ⟨ph, 0, none⟩) 4 hc) (.slice (some ⟨pk, 0, none⟩) 4 kc) (xs.set A (m - c)) (ys.set A (d + 1)):=hw8 ▸ (ol7.setHas hx4.symm A (m - c)).below (Below.drew (Below.refl _ _))
 go_wp2_with fail
 refine wp_region_noPanic ?_
 refine wp_region_held_drew (S := (fun w' => (w'.cell? ⟨w1.heap.size, 0, none⟩ = some (.slice (some ⟨ph, 0, none⟩) 4 hc) ∧ w'.cell? ⟨w1.heap.size, 1, none⟩ = some (.slice (some ⟨pk, 0, none⟩) 4 kc)) ∧ (w'.cell? ⟨w.heap.size + 1, 0, none⟩ = some (.int .i64 A) ∧ w'.cell? ⟨w.heap.size + 1, 1, none⟩ = some (.int .i64 Bt)) ∧ w'.cell? ⟨w.heap.size + 1, 2, none⟩ = some (.int .i64 c))) (by kernel_rfl) ⟨⟨O7.cell 0 rfl, O7.cell 1 rfl⟩, ⟨X7.cell 0 rfl, X7.cell 1 rfl⟩, X7.cell 2 rfl⟩ (fun hHeld => ?_)
 refine tx 0 59 ?_
 refine tx 1 60 ?_
 refine tx 2 61 ?_
 refine tx 3 62 ?_
 refine tx 4 63 ?_
 refine tx 5 64 ?_
 refine tx 6 65 ?_
 refine tx 7 66 ?_
 refine tx 8 67 ?_
 refine tx 10 69 ?_
 refine tx 11 70 ?_
 refine rd 9 rfl (fun KK hKK => ?_)
 go_simp
 clear hHeld
 refine hKK.out _ _ ⟨⟨O7.cell 0 rfl, O7.cell 1 rfl⟩, ⟨X7.cell 0 rfl, X7.cell 1 rfl⟩, X7.cell 2 rfl⟩ (fun hHeld => ?_)
 clear hKK KK
 refine tx 12 71 ?_
 refine tx 13 72 ?_
 refine rd 14 rfl (fun KK hKK => ?_)
 go_simp
 clear hHeld
 refine hKK.out _ _ ⟨⟨O8.cell 0 rfl, O8.cell 1 rfl⟩, ⟨X8.cell 0 rfl, X8.cell 1 rfl⟩, X8.cell 2 rfl⟩ (fun hHeld => ?_)
 clear hKK KK hHeld hw8 m7 f7
 refine wdn ?_
 clear B7 L7 X7 R7 O7 ol7
 have hx5 : (xs.set A (m - c)).length = 4:=by simpa using hx4
 have hB1 : (Bt : Int) < 4:=by omega
 obtain ⟨m8, f8⟩:=ol8.has.cellAt hx5.symm Bt (by simp; omega)
 rw [HR0.out] at m8
 have wr2 : IntKind.i64.wrap (r + c) = r + c:=by rw [IntKind.wrap_i64]; omega
 obtain ⟨w9, hw9⟩ : ∃ x, (w8.setCell ⟨ph, Bt, none⟩ (.int .i64 (r + c))).drew = x:=⟨_, rfl⟩
 have B9 : Below w.heap.size w w9:=hw9 ▸ Below.drew (Below.set B8 _ _ (by omega))
 have L9 : Loc w9 w.heap.size #[.slice (some ⟨g1, o1, none⟩) 4 c1,.slice (some ⟨g2, o2, none⟩) 4 c2]:=by rw [← hw9]; exact L8.other (p:=⟨ph, Bt, none⟩) (by simp; omega) _
 have X9 : Loc w9 (w.heap.size + 1) (r4 A Bt c d):=by rw [← hw9]; exact X8.other (p:=⟨ph, Bt, none⟩) (by simp; omega) _
 have R9 : Loc w9 (w.heap.size + 1 + 1) #[.slice none 0 0,.slice none 0 0]:=by rw [← hw9]; exact R8.other (p:=⟨ph, Bt, none⟩) (by simp; omega) _
 have O9 : Loc w9 w1.heap.size #[(.slice (some ⟨ph, 0, none⟩) 4 hc), (.slice (some ⟨pk, 0, none⟩) 4 kc)]:=by rw [← hw9]; exact O8.other (p:=⟨ph, Bt, none⟩) (by simp; omega) _
 have ol9 : OL w9 w0.heap.size w1.heap.size (.slice (some ⟨ph, 0, none⟩) 4 hc) (.slice (some ⟨pk, 0, none⟩) 4 kc) ((xs.set A (m - c)).set Bt (r + c)) (ys.set A (d + 1)):=hw9 ▸ (ol8.setHas hx5.symm Bt (r + c)).below (Below.drew (Below.refl _ _))
 go_wp2_with fail
 refine wp_region_noPanic ?_
 refine wp_region_held_drew (S := (fun w' => (w'.cell? ⟨w1.heap.size, 0, none⟩ = some (.slice (some ⟨ph, 0, none⟩) 4 hc) ∧ w'.cell? ⟨w1.heap.size, 1, none⟩ = some (.slice (some ⟨pk, 0, none⟩) 4 kc)) ∧ (w'.cell? ⟨w.heap.size + 1, 0, none⟩ = some (.int .i64 A) ∧ w'.cell? ⟨w.heap.size + 1, 1, none⟩ = some (.int .i64 Bt)) ∧ w'.cell? ⟨w.heap.size + 1, 2, none⟩ = some (.int .i64 c))) (by kernel_rfl) ⟨⟨O8.cell 0 rfl, O8.cell 1 rfl⟩, ⟨X8.cell 0 rfl, X8.cell 1 rfl⟩, X8.cell 2 rfl⟩ (fun hHeld => ?_)
 refine tx 0 73 ?_
 refine tx 1 74 ?_
 refine tx 2 75 ?_
 refine tx 3 76 ?_
 refine tx 4 77 ?_
 refine tx 5 78 ?_
 refine tx 6 79 ?_
 refine tx 7 80 ?_
 refine tx 8 81 ?_
 refine tx 10 83 ?_
 refine tx 11 84 ?_
 refine rd 9 rfl (fun KK hKK => ?_)
 go_simp
 clear hHeld
 refine hKK.out _ _ ⟨⟨O8.cell 0 rfl, O8.cell 1 rfl⟩, ⟨X8.cell 0 rfl, X8.cell 1 rfl⟩, X8.cell 2 rfl⟩ (fun hHeld => ?_)
 clear hKK KK
 refine tx 12 85 ?_
 refine tx 13 86 ?_
 refine rd 14 rfl (fun KK hKK => ?_)
 go_simp
 clear hHeld
 refine hKK.out _ _ ⟨⟨O9.cell 0 rfl, O9.cell 1 rfl⟩, ⟨X9.cell 0 rfl, X9.cell 1 rfl⟩, X9.cell 2 rfl⟩ (fun hHeld => ?_)
 clear hKK KK hHeld hw9 m8 f8
 refine wdn ?_
 clear B8 L8 X8 R8 O8 ol8
 rw [hx2.out, hy1.out] at ol9
 have hx6 : x2.length = 4:=by rw [← hx2.out]; simpa using hx4
 have hy6 : y1.length = 4:=by rw [← hy1.out]; simpa using hy4
 have y0:=O9.cell 0 rfl
 have yy:=O9.cell 1 rfl
 have LO2:=hide fun w h => specLedgerOk (.slice (some ⟨ph, 0, none⟩) 4 hc) (.slice (some ⟨pk, 0, none⟩) 4 kc) x2 y1 w h
 rw [HQ.out] at LO2
 go_wp2_with fail
 refine (LO2.out _ (ol9.ri (by omega) (by omega))).mono ?_
 rintro _ w10 ⟨rfl, b10⟩
 have B10:=bu B9 b10
 have L10:=L9.up b10
 have X10:=X9.up b10
 have R10:=R9.up b10
 have O10:=O9.up b10
 have ol10:=ol9.below b10
 clear y0 yy LO2 b10 B9 L9 X9 R9 O9 ol9
 have p0:=L10.cell 0 rfl
 have p1:=L10.cell 1 rfl
 have sl:=O10.lt
 go_wp2_with fail
 refine (LC.out _ ⟨RU.out.1.below B10, RU.out.2.below B10⟩).mono ?_
 rintro _ w11 ⟨un, vn, rfl, oln, b11⟩
 have B11:=bu B10 b11
 have R11:=R10.up b11
 have s11:=b11.size
 obtain ⟨na, nc, rfl⟩:=oln.has.form
 obtain ⟨qa, qc, rfl⟩:=oln.next.form
 rw [hx4, hy4] at oln ⊢
 have q0:=R11.cell 0 rfl
 have q1:=R11.cell 1 rfl
 have FR:=R11.frozen
 have oln:=hide oln
 clear b11 p0 p1
 go_wp2
 refine bodyPost_ret (v := .tuple #[lv (.slice na 4 nc) (.slice qa 4 qc),.int .i64 1]) (by simp [results, Tryz.results75, go_sem, q0, q1]) rfl ?_
 have K7 : Kp w11 ((w11.setCell ⟨w.heap.size + 1 + 1, 0, none⟩ (.slice na 4 nc)).setCell ⟨w.heap.size + 1 + 1, 1, none⟩ (.slice qa 4 qc)) (fun k => k = w.heap.size + 1 + 1):=(set_kp w11 _ 0 _).trans (set_kp _ _ 1 _)
 refine ⟨_, _, rfl, (oln.out.kp K7 (fun k h1 h2 e => by omega)).mono (by omega) (by simp), ?_⟩
 exact Below.set (Below.set B11 _ _ (by omega)) _ _ (by omega)
theorem specPay_bad1 (u v : Value) (a b c d : Int) (xs ys : List Int) (w : World) (hu : RI w u xs ∧ RI w v ys) (hl : ¬ LOk xs ys) :
 Calls Tryz.prog 75 #[lv u v, txv a b c d] w (PayEnd w (xs, ys, 1)) := by
 have RU:=hide hu
 have LC:=hide fun w h => l3Copy_any u v xs ys w h
 have LO:=hide fun w h => specLedgerOk u v xs ys w h
 rw [decide_eq_false hl] at LO
 obtain ⟨ua, uc, rfl⟩ : ∃ ua uc, u = .slice ua xs.length uc:=by obtain ⟨_, ua, uc, h, _⟩:=hu.1; exact ⟨ua, uc, h⟩
 obtain ⟨va, vc, rfl⟩ : ∃ va vc, v = .slice va ys.length vc:=by obtain ⟨_, va, vc, h, _⟩:=hu.2; exact ⟨va, vc, h⟩
 clear hu
 obtain ⟨w0, hw0⟩ : ∃ w0, ((w.alloc (.cells #[.slice ua xs.length uc,.slice va ys.length vc] 60)).alloc (.cells (r4 a b c d) 119)).alloc (.cells #[.slice none 0 0,.slice none 0 0] 60) = w0:=⟨_, rfl⟩
 have B0 : Below w.heap.size w w0:=hw0 ▸ (((Below.refl w.heap.size w).alloc (Nat.le_refl _) _).alloc (by simp) _).alloc (by simp; omega) _
 have L0 : Loc w0 w.heap.size #[.slice ua xs.length uc,.slice va ys.length vc]:=hw0 ▸ ((loc_at w _ _ rfl).alloc _).alloc _
 have X0 : Loc w0 (w.heap.size + 1) (r4 a b c d):=hw0 ▸ (loc_at _ _ _ (by simp)).alloc _
 have R0 : Loc w0 (w.heap.size + 1 + 1) #[.slice none 0 0,.slice none 0 0]:=hw0 ▸ loc_at _ _ _ (by simp)
 have q0:=L0.cell 0 rfl
 have q1:=L0.cell 1 rfl
 have lr:=R0.lt
 go_enter Tryz.func75, Tryz.ntmps75
 go_wp2_with fail
 clear hw0 q0 q1
 refine (LC.out _ ⟨RU.out.1.below B0, RU.out.2.below B0⟩).mono ?_
 rintro _ w1 ⟨uo, vo, rfl, ol, b1⟩
 have s1:=b1.size
 obtain ⟨ph, hc, rfl⟩:=ol.has.form
 obtain ⟨pk, kc, rfl⟩:=ol.next.form
 obtain ⟨w2, hw2⟩ : ∃ w2, w1.alloc (.cells #[.slice ph xs.length hc,.slice pk ys.length kc] 60) = w2:=⟨_, rfl⟩
 have b2 : Below w0.heap.size w0 w2:=hw2 ▸ b1.alloc b1.size _
 have B2:=bu B0 b2
 have L2:=L0.up b2
 have X2:=X0.up b2
 have R2:=R0.up b2
 have O2 : Loc w2 w1.heap.size #[.slice ph xs.length hc,.slice pk ys.length kc]:=hw2 ▸ loc_at w1 _ _ rfl
 have ol2 : OL w2 w0.heap.size w1.heap.size (.slice ph xs.length hc) (.slice pk ys.length kc) xs ys:=hw2 ▸ ol.alloc _
 have q0:=L2.cell 0 rfl
 have q1:=L2.cell 1 rfl
 clear ol b1 b2 B0 L0 X0 R0
 go_wp2_with fail
 clear hw2 q0 q1
 refine (LO.out _ ⟨RU.out.1.below B2, RU.out.2.below B2⟩).mono ?_
 rintro _ w3 ⟨rfl, b3⟩
 have B3:=bu B2 b3
 have X3:=X2.up b3
 have R3:=R2.up b3
 have O3:=O2.up b3
 have ol3:=ol2.below b3
 obtain ⟨t0, t1, t2, t3⟩:=X3.cells4
 clear LO b3 B2 L2 X2 R2 O2 ol2
 have hbb : (!false) = true:=rfl
 have q0:=R3.cell 0 rfl
 have q1:=R3.cell 1 rfl
 have FR:=R3.frozen
 have y0:=O3.cell 0 rfl
 have y1:=O3.cell 1 rfl
 go_wp2
 refine bodyPost_ret (v := .tuple #[lv (.slice ph xs.length hc) (.slice pk ys.length kc),.int .i64 1]) (by simp [results, Tryz.results75, go_sem, q0, q1]) rfl ?_
 have K7 : Kp w3 ((w3.setCell ⟨w.heap.size + 1 + 1, 0, none⟩ (.slice ph xs.length hc)).setCell ⟨w.heap.size + 1 + 1, 1, none⟩ (.slice pk ys.length kc)) (fun k => k = w.heap.size + 1 + 1):=(set_kp w3 _ 0 _).trans (set_kp _ _ 1 _)
 have sl:=O3.lt
 refine ⟨_, _, rfl, (ol3.kp K7 (fun k h1 h2 e => by omega)).mono (by omega) (by simp; omega), ?_⟩
 exact Below.set (Below.set B3 _ _ (by omega)) _ _ (by omega)

theorem specPay_bad2 (u v : Value) (a b c d : Int) (xs ys : List Int) (w : World) (hu : RI w u xs ∧ RI w v ys) (hl : LOk xs ys) (ho : ¬ Ok4 a b c d) :
 Calls Tryz.prog 75 #[lv u v, txv a b c d] w (PayEnd w (xs, ys, 1)) := by
 have TO:=hide fun w => specTxOk_no a b c d w ho
 have RU:=hide hu
 have LC:=hide fun w h => l3Copy_any u v xs ys w h
 have LO:=hide fun w h => specLedgerOk u v xs ys w h
 rw [decide_eq_true hl] at LO
 obtain ⟨ua, uc, rfl⟩ : ∃ ua uc, u = .slice ua xs.length uc:=by obtain ⟨_, ua, uc, h, _⟩:=hu.1; exact ⟨ua, uc, h⟩
 obtain ⟨va, vc, rfl⟩ : ∃ va vc, v = .slice va ys.length vc:=by obtain ⟨_, va, vc, h, _⟩:=hu.2; exact ⟨va, vc, h⟩
 clear hu
 obtain ⟨w0, hw0⟩ : ∃ w0, ((w.alloc (.cells #[.slice ua xs.length uc,.slice va ys.length vc] 60)).alloc (.cells (r4 a b c d) 119)).alloc (.cells #[.slice none 0 0,.slice none 0 0] 60) = w0:=⟨_, rfl⟩
 have B0 : Below w.heap.size w w0:=hw0 ▸ (((Below.refl w.heap.size w).alloc (Nat.le_refl _) _).alloc (by simp) _).alloc (by simp; omega) _
 have L0 : Loc w0 w.heap.size #[.slice ua xs.length uc,.slice va ys.length vc]:=hw0 ▸ ((loc_at w _ _ rfl).alloc _).alloc _
 have X0 : Loc w0 (w.heap.size + 1) (r4 a b c d):=hw0 ▸ (loc_at _ _ _ (by simp)).alloc _
 have R0 : Loc w0 (w.heap.size + 1 + 1) #[.slice none 0 0,.slice none 0 0]:=hw0 ▸ loc_at _ _ _ (by simp)
 have q0:=L0.cell 0 rfl
 have q1:=L0.cell 1 rfl
 have lr:=R0.lt
 go_enter Tryz.func75, Tryz.ntmps75
 go_wp2_with fail
 clear hw0 q0 q1
 refine (LC.out _ ⟨RU.out.1.below B0, RU.out.2.below B0⟩).mono ?_
 rintro _ w1 ⟨uo, vo, rfl, ol, b1⟩
 have s1:=b1.size
 obtain ⟨ph, hc, rfl⟩:=ol.has.form
 obtain ⟨pk, kc, rfl⟩:=ol.next.form
 obtain ⟨w2, hw2⟩ : ∃ w2, w1.alloc (.cells #[.slice ph xs.length hc,.slice pk ys.length kc] 60) = w2:=⟨_, rfl⟩
 have b2 : Below w0.heap.size w0 w2:=hw2 ▸ b1.alloc b1.size _
 have B2:=bu B0 b2
 have L2:=L0.up b2
 have X2:=X0.up b2
 have R2:=R0.up b2
 have O2 : Loc w2 w1.heap.size #[.slice ph xs.length hc,.slice pk ys.length kc]:=hw2 ▸ loc_at w1 _ _ rfl
 have ol2 : OL w2 w0.heap.size w1.heap.size (.slice ph xs.length hc) (.slice pk ys.length kc) xs ys:=hw2 ▸ ol.alloc _
 have q0:=L2.cell 0 rfl
 have q1:=L2.cell 1 rfl
 clear ol b1 b2 B0 L0 X0 R0
 go_wp2_with fail
 clear hw2 q0 q1
 refine (LO.out _ ⟨RU.out.1.below B2, RU.out.2.below B2⟩).mono ?_
 rintro _ w3 ⟨rfl, b3⟩
 have B3:=bu B2 b3
 have X3:=X2.up b3
 have R3:=R2.up b3
 have O3:=O2.up b3
 have ol3:=ol2.below b3
 obtain ⟨t0, t1, t2, t3⟩:=X3.cells4
 clear LO b3 B2 L2 X2 R2 O2 ol2
 go_wp2_with fail
 refine (TO.out _).mono ?_
 rintro _ w4 ⟨rfl, b4⟩
 have B4:=bu B3 b4
 have R4:=R3.up b4
 have O4:=O3.up b4
 have ol4:=ol3.below b4
 clear t0 t1 t2 t3
 have q0:=R4.cell 0 rfl
 have q1:=R4.cell 1 rfl
 have FR:=R4.frozen
 have y0:=O4.cell 0 rfl
 have y1:=O4.cell 1 rfl
 go_wp2
 refine bodyPost_ret (v := .tuple #[lv (.slice ph xs.length hc) (.slice pk ys.length kc),.int .i64 1]) (by simp [results, Tryz.results75, go_sem, q0, q1]) rfl ?_
 have K7 : Kp w4 ((w4.setCell ⟨w.heap.size + 1 + 1, 0, none⟩ (.slice ph xs.length hc)).setCell ⟨w.heap.size + 1 + 1, 1, none⟩ (.slice pk ys.length kc)) (fun k => k = w.heap.size + 1 + 1):=(set_kp w4 _ 0 _).trans (set_kp _ _ 1 _)
 have sl:=O4.lt
 refine ⟨_, _, rfl, (ol4.kp K7 (fun k h1 h2 e => by omega)).mono (by omega) (by simp; omega), ?_⟩
 exact Below.set (Below.set B4 _ _ (by omega)) _ _ (by omega)

theorem specPay (u v : Value) (a b c d : Int) (xs ys : List Int) (w : World) (hu : RI w u xs ∧ RI w v ys) :
 Calls Tryz.prog 75 #[lv u v, txv a b c d] w (PayEnd w (payAns xs ys a b c d)) := by
 unfold payAns
 by_cases hl : LOk xs ys
 ·rw [if_pos hl]
  have hx:=hl.1
  have hy:=hl.2.1
  by_cases ho : Ok4 a b c d
  ·obtain ⟨A, rfl⟩ : ∃ A : Nat, a = A:=⟨a.toNat, by unfold Ok4 at ho; omega⟩
   obtain ⟨B, rfl⟩ : ∃ B : Nat, b = B:=⟨b.toNat, by unfold Ok4 at ho; omega⟩
   have hA : A < 4:=by unfold Ok4 at ho; omega
   have hB : B < 4:=by unfold Ok4 at ho; omega
   have hc : 0 ≤ c ∧ c ≤ 1000:=by unfold Ok4 at ho; omega
   unfold paidB
   rw [if_neg (by simpa using ho), Int.toNat_natCast, Int.toNat_natCast]
   by_cases h1 : d < ys.getD A 0
   ·rw [if_pos h1]; exact specPay_old u v A B c d xs ys w hu hA ho hl h1
   rw [if_neg h1]
   by_cases h2 : ys.getD A 0 < d
   ·rw [if_pos h2]; exact specPay_early u v A B c d xs ys w hu hA ho hl h2
   rw [if_neg h2]
   have hn : ys.getD A 0 = d:=by omega
   by_cases h3 : xs.getD A 0 < c
   ·rw [if_pos h3]; exact specPay_poor u v A B c d xs ys w hu hA ho hl hn h3
   rw [if_neg h3]
   have hmA:=(hl.2.2 A hA).1
   have hmB:=(hl.2.2 B hB).1
   have hr : 0 ≤ (xs.set A (xs.getD A 0 - c)).getD B 0 ∧ (xs.set A (xs.getD A 0 - c)).getD B 0 ≤ 400:=by
    rw [getD_set (by omega)]; split <;> omega
   by_cases h4 : LOk ((xs.set A (xs.getD A 0 - c)).set B ((xs.set A (xs.getD A 0 - c)).getD B 0 + c)) (ys.set A (d + 1))
   ·rw [if_pos h4]; exact specPay_done u v A B c d xs ys w hu hA ho hl _ _ _ _ hB hn rfl rfl rfl rfl (by omega) (by omega) hr (decide_eq_true h4)
   rw [if_neg h4]; exact specPay_over u v A B c d xs ys w hu hA ho hl _ _ _ _ hB hn rfl rfl rfl rfl (by omega) (by omega) hr (decide_eq_false h4)
  unfold paidB
  rw [if_pos (by simpa using ho)]
  exact specPay_bad2 u v a b c d xs ys w hu hl ho
 rw [if_neg hl]
 exact specPay_bad1 u v a b c d xs ys w hu hl
end
end Go.Proofs.YtmpffkpilbbclaaGreatDoor
