/- Lemmas, as stated. -/
import Derived.Test.YtjdchloechcclaaGreatDoorSNAY
set_option maxRecDepth 100000
set_option maxHeartbeats 16000000
set_option linter.unusedSectionVars false
namespace Go.Proofs.YtjdchloechcclaaGreatDoor
section
open Go.RowKit
variable [∀ (a b c d : Int), Decidable (Ok4 a b c d)]
def namB (t : MT) : MT := ⟨t.k, 0, t.bn, t.bv, t.bs, t.bw, 0, ⟨#[]⟩, [], 0, ⟨#[]⟩, [], 0, 0, 0, 0, 0⟩
def namP (t : MT) : MT := ⟨t.k, 0, ⟨#[]⟩, 0, ⟨#[]⟩, [], t.pv, t.ps, t.pw, 0, ⟨#[]⟩, [], 0, 0, 0, 0, 0⟩
def namV (t : MT) : MT := ⟨t.k, t.vw, ⟨#[]⟩, 0, ⟨#[]⟩, [], 0, ⟨#[]⟩, [], t.qv, t.qs, t.qw, t.wh, 0, 0, 0, 0⟩
def namX (t : MT) : MT := ⟨t.k, 0, ⟨#[]⟩, 0, ⟨#[]⟩, [], 0, ⟨#[]⟩, [], 0, ⟨#[]⟩, [], 0, t.fr, t.tu, t.am, t.no⟩
def namN (t : MT) : MT := ⟨t.k, 0, ⟨#[]⟩, 0, ⟨#[]⟩, [], 0, ⟨#[]⟩, [], 0, ⟨#[]⟩, [], 0, 0, 0, 0, 0⟩
def namT (t : MT) : MT := if t.k = 1 then namB t else if t.k = 2 then namP t else if t.k = 3 then namV t else if t.k = 4 then namX t else namN t
theorem nam1 {t : MT} (h : t.k = 1) : namT t = namB t := by unfold namT; rw [if_pos h]
theorem nam2 {t : MT} (h : t.k = 2) : namT t = namP t := by unfold namT; rw [if_neg (by omega), if_pos h]
theorem nam3 {t : MT} (h : t.k = 3) : namT t = namV t := by unfold namT; rw [if_neg (by omega), if_neg (by omega), if_pos h]
theorem nam4 {t : MT} (h : t.k = 4) : namT t = namX t := by unfold namT; rw [if_neg (by omega), if_neg (by omega), if_neg (by omega), if_pos h]
theorem nam0 {t : MT} (h1 : ¬ t.k = 1) (h2 : ¬ t.k = 2) (h3 : ¬ t.k = 3) (h4 : ¬ t.k = 4) : namT t = namN t := by unfold namT; rw [if_neg h1, if_neg h2, if_neg h3, if_neg h4]
def zerB (t : MT) : Bool := msamB (namT t) t
theorem rinone (w : World) : RI w (.slice none 0 0) [] := ⟨by simp, .none, 0, rfl, .inl rfl⟩
theorem kinds (k : Int) : k = 1 ∨ k = 2 ∨ k = 3 ∨ k = 4 ∨ (¬ k = 1 ∧ ¬ k = 2 ∧ ¬ k = 3 ∧ ¬ k = 4) := by omega
theorem l14Zero_1 (t : MT) (ao bo co : Option Addr) (ca cb cc : Nat) (w : World) (hk : t.k = 1) (ha : RI w (.slice ao t.bw.length ca) t.bw) (hb : RI w (.slice bo t.pw.length cb) t.pw) (hc : RI w (.slice co t.qw.length cc) t.qw) :
 Calls Tryz.prog 132 #[mgv t (.slice ao t.bw.length ca) (.slice bo t.pw.length cb) (.slice co t.qw.length cc)] w fun e w' => e = .returned (.bool (msamB (namB t) t)) ∧ Below w.heap.size w w' := by
 have dk1 : decide (t.k = 1) = true:=by simpa using hk
 have ek1 : (t.k == 1) = true:=by simpa using hk
 have SM:=hide fun w h1 h2 h3 h4 h5 h6 => specMsgSame (namB t) t ao .none .none ao bo co ca 0 0 ca cb cc w h1 h2 h3 h4 h5 h6
 have HK:=hide hk
 clear hk
 have ha1:=hide ha
 have hb1:=hide hb
 have hc1:=hide hc
 clear ha hb hc
 obtain ⟨w0, hw0, Bw0, A, zw0⟩:=bx1 w #[.int .i64 t.k,.int .i64 t.vw,.string t.bn,.int .i64 t.bv,.string t.bs,.slice ao t.bw.length ca,.int .i64 t.pv,.string t.ps,.slice bo t.pw.length cb,.int .i64 t.qv,.string t.qs,.slice co t.qw.length cc,.int .i64 t.wh,.int .i64 t.fr,.int .i64 t.tu,.int .i64 t.am,.int .i64 t.no] 72
 go_enter Tryz.func132, Tryz.ntmps132
 have cA0:=A.cell 0 rfl
 go_upto_region 2 with fail
 clear hw0 cA0
 obtain ⟨w1, hw1⟩ : ∃ y, w0.alloc (.cells #[.int .i64 t.k,.int .i64 0,.string ⟨#[]⟩,.int .i64 0,.string ⟨#[]⟩,.slice none 0 0,.int .i64 0,.string ⟨#[]⟩,.slice none 0 0,.int .i64 0,.string ⟨#[]⟩,.slice none 0 0,.int .i64 0,.int .i64 0,.int .i64 0,.int .i64 0,.int .i64 0] 72) = y:=⟨_, rfl⟩
 have bb : Below w0.heap.size w0 w1:=hw1 ▸ qalloc _ _
 have X : Loc w1 w0.heap.size #[.int .i64 t.k,.int .i64 0,.string ⟨#[]⟩,.int .i64 0,.string ⟨#[]⟩,.slice none 0 0,.int .i64 0,.string ⟨#[]⟩,.slice none 0 0,.int .i64 0,.string ⟨#[]⟩,.slice none 0 0,.int .i64 0,.int .i64 0,.int .i64 0,.int .i64 0,.int .i64 0]:=hw1 ▸ loc_at w0 _ _ rfl
 have zw1 : w0.heap.size + 1 ≤ w1.heap.size:=by rw [← hw1]; simp
 rw [hw1]
 clear hw1
 have Bw1:=bu Bw0 bb
 have sw1:=bb.size
 replace A:=A.up bb
 clear Bw0 bb
 obtain ⟨cA0,cA2,cA3,cA4,cA5⟩:=cc5 A 0 2 3 4 5
 obtain ⟨cX2,cX3,cX4,cX5⟩:=cc4 X 2 3 4 5
 have fX:=X.frozen
 go_upto_region 13 with fail
 clear cA0 cA2 cA3 cA4 cA5 cX2 cX3 cX4 cX5 fX
 obtain ⟨w2, hw2⟩ : ∃ w9_, ((((w1.setCell ⟨w0.heap.size, 2, none⟩ (.string t.bn)).setCell ⟨w0.heap.size, 3, none⟩ (.int .i64 t.bv)).setCell ⟨w0.heap.size, 4, none⟩ (.string t.bs)).setCell ⟨w0.heap.size, 5, none⟩ (.slice ao t.bw.length ca)) = w9_:=⟨_, rfl⟩
 have kN : Kp w1 w2 (fun k => k = w0.heap.size):=hw2 ▸ (((set_kp _ _ _ _).trans (set_kp _ _ _ _)).trans (set_kp _ _ _ _)).trans (set_kp _ _ _ _)
 replace X : Loc w2 (w0.heap.size) #[.int .i64 t.k,.int .i64 0,.string t.bn,.int .i64 t.bv,.string t.bs,.slice ao t.bw.length ca,.int .i64 0,.string ⟨#[]⟩,.slice none 0 0,.int .i64 0,.string ⟨#[]⟩,.slice none 0 0,.int .i64 0,.int .i64 0,.int .i64 0,.int .i64 0,.int .i64 0]:=hw2 ▸ ((((X.set 2 _ rfl).set 3 _ rfl).set 4 _ rfl).set 5 _ rfl)
 replace A:=A.kp kN (by omega)
 have Bw2:=Below.kp Bw1 kN Bw1.size (fun k hk => by omega)
 have sw2:=kN.size
 rw [hw2]
 clear hw2 kN Bw1
 have SM':=SM.out _ (ha1.out.below Bw2) (rinone _) (rinone _) (ha1.out.below Bw2) (hb1.out.below Bw2) (hc1.out.below Bw2)
 clear SM ha1 hb1 hc1
 have H5:=hide SM'
 clear SM'
 go_wp2_with (first | (refine wload X 72 _ rfl _ rfl rfl Tryz.underlying72 rfl (by kernel_rfl) ?_) | (refine wload A 72 _ rfl _ rfl rfl Tryz.underlying72 rfl (by kernel_rfl) ?_))
 refine H5.out.mono ?_
 rintro _ w3 ⟨rfl, bb⟩
 have Bw3:=bu Bw2 bb
 have sw3:=bb.size
 replace A:=A.up bb
 replace X:=X.up bb
 clear Bw2 bb
 go_wp2
 go_ret
 exact ⟨rfl, Bw3⟩

theorem l14Zero_2 (t : MT) (ao bo co : Option Addr) (ca cb cc : Nat) (w : World) (hk : t.k = 2) (ha : RI w (.slice ao t.bw.length ca) t.bw) (hb : RI w (.slice bo t.pw.length cb) t.pw) (hc : RI w (.slice co t.qw.length cc) t.qw) :
 Calls Tryz.prog 132 #[mgv t (.slice ao t.bw.length ca) (.slice bo t.pw.length cb) (.slice co t.qw.length cc)] w fun e w' => e = .returned (.bool (msamB (namP t) t)) ∧ Below w.heap.size w w' := by
 have dk1 : decide (t.k = 1) = false:=by simp; omega
 have ek1 : (t.k == 1) = false:=by simp; omega
 have dk2 : decide (t.k = 2) = true:=by simpa using hk
 have ek2 : (t.k == 2) = true:=by simpa using hk
 have SM:=hide fun w h1 h2 h3 h4 h5 h6 => specMsgSame (namP t) t .none bo .none ao bo co 0 cb 0 ca cb cc w h1 h2 h3 h4 h5 h6
 have HK:=hide hk
 clear hk
 have ha1:=hide ha
 have hb1:=hide hb
 have hc1:=hide hc
 clear ha hb hc
 obtain ⟨w0, hw0, Bw0, A, zw0⟩:=bx1 w #[.int .i64 t.k,.int .i64 t.vw,.string t.bn,.int .i64 t.bv,.string t.bs,.slice ao t.bw.length ca,.int .i64 t.pv,.string t.ps,.slice bo t.pw.length cb,.int .i64 t.qv,.string t.qs,.slice co t.qw.length cc,.int .i64 t.wh,.int .i64 t.fr,.int .i64 t.tu,.int .i64 t.am,.int .i64 t.no] 72
 go_enter Tryz.func132, Tryz.ntmps132
 have cA0:=A.cell 0 rfl
 go_upto_region 2 with fail
 clear hw0 cA0
 obtain ⟨w1, hw1⟩ : ∃ y, w0.alloc (.cells #[.int .i64 t.k,.int .i64 0,.string ⟨#[]⟩,.int .i64 0,.string ⟨#[]⟩,.slice none 0 0,.int .i64 0,.string ⟨#[]⟩,.slice none 0 0,.int .i64 0,.string ⟨#[]⟩,.slice none 0 0,.int .i64 0,.int .i64 0,.int .i64 0,.int .i64 0,.int .i64 0] 72) = y:=⟨_, rfl⟩
 have bb : Below w0.heap.size w0 w1:=hw1 ▸ qalloc _ _
 have X : Loc w1 w0.heap.size #[.int .i64 t.k,.int .i64 0,.string ⟨#[]⟩,.int .i64 0,.string ⟨#[]⟩,.slice none 0 0,.int .i64 0,.string ⟨#[]⟩,.slice none 0 0,.int .i64 0,.string ⟨#[]⟩,.slice none 0 0,.int .i64 0,.int .i64 0,.int .i64 0,.int .i64 0,.int .i64 0]:=hw1 ▸ loc_at w0 _ _ rfl
 have zw1 : w0.heap.size + 1 ≤ w1.heap.size:=by rw [← hw1]; simp
 rw [hw1]
 clear hw1
 have Bw1:=bu Bw0 bb
 have sw1:=bb.size
 replace A:=A.up bb
 clear Bw0 bb
 obtain ⟨cA0,cA6,cA7,cA8⟩:=cc4 A 0 6 7 8
 obtain ⟨cX6,cX7,cX8⟩:=cc3 X 6 7 8
 have fX:=X.frozen
 go_upto_region 13 with fail
 clear cA0 cA6 cA7 cA8 cX6 cX7 cX8 fX
 obtain ⟨w2, hw2⟩ : ∃ w9_, (((w1.setCell ⟨w0.heap.size, 6, none⟩ (.int .i64 t.pv)).setCell ⟨w0.heap.size, 7, none⟩ (.string t.ps)).setCell ⟨w0.heap.size, 8, none⟩ (.slice bo t.pw.length cb)) = w9_:=⟨_, rfl⟩
 have kN : Kp w1 w2 (fun k => k = w0.heap.size):=hw2 ▸ ((set_kp _ _ _ _).trans (set_kp _ _ _ _)).trans (set_kp _ _ _ _)
 replace X : Loc w2 (w0.heap.size) #[.int .i64 t.k,.int .i64 0,.string ⟨#[]⟩,.int .i64 0,.string ⟨#[]⟩,.slice none 0 0,.int .i64 t.pv,.string t.ps,.slice bo t.pw.length cb,.int .i64 0,.string ⟨#[]⟩,.slice none 0 0,.int .i64 0,.int .i64 0,.int .i64 0,.int .i64 0,.int .i64 0]:=hw2 ▸ (((X.set 6 _ rfl).set 7 _ rfl).set 8 _ rfl)
 replace A:=A.kp kN (by omega)
 have Bw2:=Below.kp Bw1 kN Bw1.size (fun k hk => by omega)
 have sw2:=kN.size
 rw [hw2]
 clear hw2 kN Bw1
 have SM':=SM.out _ (rinone _) (hb1.out.below Bw2) (rinone _) (ha1.out.below Bw2) (hb1.out.below Bw2) (hc1.out.below Bw2)
 clear SM ha1 hb1 hc1
 have H5:=hide SM'
 clear SM'
 go_wp2_with (first | (refine wload X 72 _ rfl _ rfl rfl Tryz.underlying72 rfl (by kernel_rfl) ?_) | (refine wload A 72 _ rfl _ rfl rfl Tryz.underlying72 rfl (by kernel_rfl) ?_))
 refine H5.out.mono ?_
 rintro _ w3 ⟨rfl, bb⟩
 have Bw3:=bu Bw2 bb
 have sw3:=bb.size
 replace A:=A.up bb
 replace X:=X.up bb
 clear Bw2 bb
 go_wp2
 go_ret
 exact ⟨rfl, Bw3⟩

theorem l14Zero_3 (t : MT) (ao bo co : Option Addr) (ca cb cc : Nat) (w : World) (hk : t.k = 3) (ha : RI w (.slice ao t.bw.length ca) t.bw) (hb : RI w (.slice bo t.pw.length cb) t.pw) (hc : RI w (.slice co t.qw.length cc) t.qw) :
 Calls Tryz.prog 132 #[mgv t (.slice ao t.bw.length ca) (.slice bo t.pw.length cb) (.slice co t.qw.length cc)] w fun e w' => e = .returned (.bool (msamB (namV t) t)) ∧ Below w.heap.size w w' := by
 have dk1 : decide (t.k = 1) = false:=by simp; omega
 have ek1 : (t.k == 1) = false:=by simp; omega
 have dk2 : decide (t.k = 2) = false:=by simp; omega
 have ek2 : (t.k == 2) = false:=by simp; omega
 have dk3 : decide (t.k = 3) = true:=by simpa using hk
 have ek3 : (t.k == 3) = true:=by simpa using hk
 have SM:=hide fun w h1 h2 h3 h4 h5 h6 => specMsgSame (namV t) t .none .none co ao bo co 0 0 cc ca cb cc w h1 h2 h3 h4 h5 h6
 have HK:=hide hk
 clear hk
 have ha1:=hide ha
 have hb1:=hide hb
 have hc1:=hide hc
 clear ha hb hc
 obtain ⟨w0, hw0, Bw0, A, zw0⟩:=bx1 w #[.int .i64 t.k,.int .i64 t.vw,.string t.bn,.int .i64 t.bv,.string t.bs,.slice ao t.bw.length ca,.int .i64 t.pv,.string t.ps,.slice bo t.pw.length cb,.int .i64 t.qv,.string t.qs,.slice co t.qw.length cc,.int .i64 t.wh,.int .i64 t.fr,.int .i64 t.tu,.int .i64 t.am,.int .i64 t.no] 72
 go_enter Tryz.func132, Tryz.ntmps132
 have cA0:=A.cell 0 rfl
 go_upto_region 2 with fail
 clear hw0 cA0
 obtain ⟨w1, hw1⟩ : ∃ y, w0.alloc (.cells #[.int .i64 t.k,.int .i64 0,.string ⟨#[]⟩,.int .i64 0,.string ⟨#[]⟩,.slice none 0 0,.int .i64 0,.string ⟨#[]⟩,.slice none 0 0,.int .i64 0,.string ⟨#[]⟩,.slice none 0 0,.int .i64 0,.int .i64 0,.int .i64 0,.int .i64 0,.int .i64 0] 72) = y:=⟨_, rfl⟩
 have bb : Below w0.heap.size w0 w1:=hw1 ▸ qalloc _ _
 have X : Loc w1 w0.heap.size #[.int .i64 t.k,.int .i64 0,.string ⟨#[]⟩,.int .i64 0,.string ⟨#[]⟩,.slice none 0 0,.int .i64 0,.string ⟨#[]⟩,.slice none 0 0,.int .i64 0,.string ⟨#[]⟩,.slice none 0 0,.int .i64 0,.int .i64 0,.int .i64 0,.int .i64 0,.int .i64 0]:=hw1 ▸ loc_at w0 _ _ rfl
 have zw1 : w0.heap.size + 1 ≤ w1.heap.size:=by rw [← hw1]; simp
 rw [hw1]
 clear hw1
 have Bw1:=bu Bw0 bb
 have sw1:=bb.size
 replace A:=A.up bb
 clear Bw0 bb
 obtain ⟨cA0,cA1⟩:=cc2 A 0 1
 have cX1:=X.cell 1 rfl
 have fX:=X.frozen
 go_upto_region 9 with fail
 clear cA0 cA1 cX1 fX
 obtain ⟨w2, hw2⟩ : ∃ w9_, (w1.setCell ⟨w0.heap.size, 1, none⟩ (.int .i64 t.vw)) = w9_:=⟨_, rfl⟩
 have kN : Kp w1 w2 (fun k => k = w0.heap.size):=hw2 ▸ set_kp _ _ _ _
 replace X : Loc w2 (w0.heap.size) #[.int .i64 t.k,.int .i64 t.vw,.string ⟨#[]⟩,.int .i64 0,.string ⟨#[]⟩,.slice none 0 0,.int .i64 0,.string ⟨#[]⟩,.slice none 0 0,.int .i64 0,.string ⟨#[]⟩,.slice none 0 0,.int .i64 0,.int .i64 0,.int .i64 0,.int .i64 0,.int .i64 0]:=hw2 ▸ (X.set 1 _ rfl)
 replace A:=A.kp kN (by omega)
 have Bw2:=Below.kp Bw1 kN Bw1.size (fun k hk => by omega)
 have sw2:=kN.size
 rw [hw2]
 clear hw2 kN Bw1
 obtain ⟨cA9,cA10,cA11⟩:=cc3 A 9 10 11
 obtain ⟨cX9,cX10,cX11⟩:=cc3 X 9 10 11
 have fX:=X.frozen
 go_upto_region 10 with fail
 clear cA9 cA10 cA11 cX9 cX10 cX11 fX
 obtain ⟨w3, hw3⟩ : ∃ w9_, (((w2.setCell ⟨w0.heap.size, 9, none⟩ (.int .i64 t.qv)).setCell ⟨w0.heap.size, 10, none⟩ (.string t.qs)).setCell ⟨w0.heap.size, 11, none⟩ (.slice co t.qw.length cc)) = w9_:=⟨_, rfl⟩
 have kN : Kp w2 w3 (fun k => k = w0.heap.size):=hw3 ▸ ((set_kp _ _ _ _).trans (set_kp _ _ _ _)).trans (set_kp _ _ _ _)
 replace X : Loc w3 (w0.heap.size) #[.int .i64 t.k,.int .i64 t.vw,.string ⟨#[]⟩,.int .i64 0,.string ⟨#[]⟩,.slice none 0 0,.int .i64 0,.string ⟨#[]⟩,.slice none 0 0,.int .i64 t.qv,.string t.qs,.slice co t.qw.length cc,.int .i64 0,.int .i64 0,.int .i64 0,.int .i64 0,.int .i64 0]:=hw3 ▸ (((X.set 9 _ rfl).set 10 _ rfl).set 11 _ rfl)
 replace A:=A.kp kN (by omega)
 have Bw3:=Below.kp Bw2 kN Bw2.size (fun k hk => by omega)
 have sw3:=kN.size
 rw [hw3]
 clear hw3 kN Bw2
 have cA12:=A.cell 12 rfl
 have cX12:=X.cell 12 rfl
 have fX:=X.frozen
 go_upto_region 13 with fail
 clear cA12 cX12 fX
 obtain ⟨w4, hw4⟩ : ∃ w9_, (w3.setCell ⟨w0.heap.size, 12, none⟩ (.int .i64 t.wh)) = w9_:=⟨_, rfl⟩
 have kN : Kp w3 w4 (fun k => k = w0.heap.size):=hw4 ▸ set_kp _ _ _ _
 replace X : Loc w4 (w0.heap.size) #[.int .i64 t.k,.int .i64 t.vw,.string ⟨#[]⟩,.int .i64 0,.string ⟨#[]⟩,.slice none 0 0,.int .i64 0,.string ⟨#[]⟩,.slice none 0 0,.int .i64 t.qv,.string t.qs,.slice co t.qw.length cc,.int .i64 t.wh,.int .i64 0,.int .i64 0,.int .i64 0,.int .i64 0]:=hw4 ▸ (X.set 12 _ rfl)
 replace A:=A.kp kN (by omega)
 have Bw4:=Below.kp Bw3 kN Bw3.size (fun k hk => by omega)
 have sw4:=kN.size
 rw [hw4]
 clear hw4 kN Bw3
 have SM':=SM.out _ (rinone _) (rinone _) (hc1.out.below Bw4) (ha1.out.below Bw4) (hb1.out.below Bw4) (hc1.out.below Bw4)
 clear SM ha1 hb1 hc1
 have H5:=hide SM'
 clear SM'
 go_wp2_with (first | (refine wload X 72 _ rfl _ rfl rfl Tryz.underlying72 rfl (by kernel_rfl) ?_) | (refine wload A 72 _ rfl _ rfl rfl Tryz.underlying72 rfl (by kernel_rfl) ?_))
 refine H5.out.mono ?_
 rintro _ w5 ⟨rfl, bb⟩
 have Bw5:=bu Bw4 bb
 have sw5:=bb.size
 replace A:=A.up bb
 replace X:=X.up bb
 clear Bw4 bb
 go_wp2
 go_ret
 exact ⟨rfl, Bw5⟩

theorem l14Zero_4 (t : MT) (ao bo co : Option Addr) (ca cb cc : Nat) (w : World) (hk : t.k = 4) (ha : RI w (.slice ao t.bw.length ca) t.bw) (hb : RI w (.slice bo t.pw.length cb) t.pw) (hc : RI w (.slice co t.qw.length cc) t.qw) :
 Calls Tryz.prog 132 #[mgv t (.slice ao t.bw.length ca) (.slice bo t.pw.length cb) (.slice co t.qw.length cc)] w fun e w' => e = .returned (.bool (msamB (namX t) t)) ∧ Below w.heap.size w w' := by
 have dk1 : decide (t.k = 1) = false:=by simp; omega
 have ek1 : (t.k == 1) = false:=by simp; omega
 have dk2 : decide (t.k = 2) = false:=by simp; omega
 have ek2 : (t.k == 2) = false:=by simp; omega
 have dk3 : decide (t.k = 3) = false:=by simp; omega
 have ek3 : (t.k == 3) = false:=by simp; omega
 have dk4 : decide (t.k = 4) = true:=by simpa using hk
 have ek4 : (t.k == 4) = true:=by simpa using hk
 have SM:=hide fun w h1 h2 h3 h4 h5 h6 => specMsgSame (namX t) t .none .none .none ao bo co 0 0 0 ca cb cc w h1 h2 h3 h4 h5 h6
 have HK:=hide hk
 clear hk
 have ha1:=hide ha
 have hb1:=hide hb
 have hc1:=hide hc
 clear ha hb hc
 obtain ⟨w0, hw0, Bw0, A, zw0⟩:=bx1 w #[.int .i64 t.k,.int .i64 t.vw,.string t.bn,.int .i64 t.bv,.string t.bs,.slice ao t.bw.length ca,.int .i64 t.pv,.string t.ps,.slice bo t.pw.length cb,.int .i64 t.qv,.string t.qs,.slice co t.qw.length cc,.int .i64 t.wh,.int .i64 t.fr,.int .i64 t.tu,.int .i64 t.am,.int .i64 t.no] 72
 go_enter Tryz.func132, Tryz.ntmps132
 have cA0:=A.cell 0 rfl
 go_upto_region 2 with fail
 clear hw0 cA0
 obtain ⟨w1, hw1⟩ : ∃ y, w0.alloc (.cells #[.int .i64 t.k,.int .i64 0,.string ⟨#[]⟩,.int .i64 0,.string ⟨#[]⟩,.slice none 0 0,.int .i64 0,.string ⟨#[]⟩,.slice none 0 0,.int .i64 0,.string ⟨#[]⟩,.slice none 0 0,.int .i64 0,.int .i64 0,.int .i64 0,.int .i64 0,.int .i64 0] 72) = y:=⟨_, rfl⟩
 have bb : Below w0.heap.size w0 w1:=hw1 ▸ qalloc _ _
 have X : Loc w1 w0.heap.size #[.int .i64 t.k,.int .i64 0,.string ⟨#[]⟩,.int .i64 0,.string ⟨#[]⟩,.slice none 0 0,.int .i64 0,.string ⟨#[]⟩,.slice none 0 0,.int .i64 0,.string ⟨#[]⟩,.slice none 0 0,.int .i64 0,.int .i64 0,.int .i64 0,.int .i64 0,.int .i64 0]:=hw1 ▸ loc_at w0 _ _ rfl
 have zw1 : w0.heap.size + 1 ≤ w1.heap.size:=by rw [← hw1]; simp
 rw [hw1]
 clear hw1
 have Bw1:=bu Bw0 bb
 have sw1:=bb.size
 replace A:=A.up bb
 clear Bw0 bb
 obtain ⟨cA0,cA13,cA14,cA15,cA16⟩:=cc5 A 0 13 14 15 16
 obtain ⟨cX13,cX14,cX15,cX16⟩:=cc4 X 13 14 15 16
 have fX:=X.frozen
 go_upto_region 13 with fail
 clear cA0 cA13 cA14 cA15 cA16 cX13 cX14 cX15 cX16 fX
 obtain ⟨w2, hw2⟩ : ∃ w9_, ((((w1.setCell ⟨w0.heap.size, 13, none⟩ (.int .i64 t.fr)).setCell ⟨w0.heap.size, 14, none⟩ (.int .i64 t.tu)).setCell ⟨w0.heap.size, 15, none⟩ (.int .i64 t.am)).setCell ⟨w0.heap.size, 16, none⟩ (.int .i64 t.no)) = w9_:=⟨_, rfl⟩
 have kN : Kp w1 w2 (fun k => k = w0.heap.size):=hw2 ▸ (((set_kp _ _ _ _).trans (set_kp _ _ _ _)).trans (set_kp _ _ _ _)).trans (set_kp _ _ _ _)
 replace X : Loc w2 (w0.heap.size) #[.int .i64 t.k,.int .i64 0,.string ⟨#[]⟩,.int .i64 0,.string ⟨#[]⟩,.slice none 0 0,.int .i64 0,.string ⟨#[]⟩,.slice none 0 0,.int .i64 0,.string ⟨#[]⟩,.slice none 0 0,.int .i64 0,.int .i64 t.fr,.int .i64 t.tu,.int .i64 t.am,.int .i64 t.no]:=hw2 ▸ ((((X.set 13 _ rfl).set 14 _ rfl).set 15 _ rfl).set 16 _ rfl)
 replace A:=A.kp kN (by omega)
 have Bw2:=Below.kp Bw1 kN Bw1.size (fun k hk => by omega)
 have sw2:=kN.size
 rw [hw2]
 clear hw2 kN Bw1
 have SM':=SM.out _ (rinone _) (rinone _) (rinone _) (ha1.out.below Bw2) (hb1.out.below Bw2) (hc1.out.below Bw2)
 clear SM ha1 hb1 hc1
 have H5:=hide SM'
 clear SM'
 go_wp2_with (first | (refine wload X 72 _ rfl _ rfl rfl Tryz.underlying72 rfl (by kernel_rfl) ?_) | (refine wload A 72 _ rfl _ rfl rfl Tryz.underlying72 rfl (by kernel_rfl) ?_))
 refine H5.out.mono ?_
 rintro _ w3 ⟨rfl, bb⟩
 have Bw3:=bu Bw2 bb
 have sw3:=bb.size
 replace A:=A.up bb
 replace X:=X.up bb
 clear Bw2 bb
 go_wp2
 go_ret
 exact ⟨rfl, Bw3⟩

theorem l14Zero_0 (t : MT) (ao bo co : Option Addr) (ca cb cc : Nat) (w : World) (h1 : ¬ t.k = 1) (h2 : ¬ t.k = 2) (h3 : ¬ t.k = 3) (h4 : ¬ t.k = 4) (ha : RI w (.slice ao t.bw.length ca) t.bw) (hb : RI w (.slice bo t.pw.length cb) t.pw) (hc : RI w (.slice co t.qw.length cc) t.qw) :
 Calls Tryz.prog 132 #[mgv t (.slice ao t.bw.length ca) (.slice bo t.pw.length cb) (.slice co t.qw.length cc)] w fun e w' => e = .returned (.bool (msamB (namN t) t)) ∧ Below w.heap.size w w' := by
 have dk1 : decide (t.k = 1) = false:=by simp; omega
 have ek1 : (t.k == 1) = false:=by simp; omega
 have dk2 : decide (t.k = 2) = false:=by simp; omega
 have ek2 : (t.k == 2) = false:=by simp; omega
 have dk3 : decide (t.k = 3) = false:=by simp; omega
 have ek3 : (t.k == 3) = false:=by simp; omega
 have dk4 : decide (t.k = 4) = false:=by simp; omega
 have ek4 : (t.k == 4) = false:=by simp; omega
 have SM:=hide fun w h1 h2 h3 h4 h5 h6 => specMsgSame (namN t) t .none .none .none ao bo co 0 0 0 ca cb cc w h1 h2 h3 h4 h5 h6
 have HK:=hide True.intro
 have ha1:=hide ha
 have hb1:=hide hb
 have hc1:=hide hc
 clear ha hb hc
 obtain ⟨w0, hw0, Bw0, A, zw0⟩:=bx1 w #[.int .i64 t.k,.int .i64 t.vw,.string t.bn,.int .i64 t.bv,.string t.bs,.slice ao t.bw.length ca,.int .i64 t.pv,.string t.ps,.slice bo t.pw.length cb,.int .i64 t.qv,.string t.qs,.slice co t.qw.length cc,.int .i64 t.wh,.int .i64 t.fr,.int .i64 t.tu,.int .i64 t.am,.int .i64 t.no] 72
 go_enter Tryz.func132, Tryz.ntmps132
 have cA0:=A.cell 0 rfl
 go_upto_region 2 with fail
 clear hw0 cA0
 obtain ⟨w1, hw1⟩ : ∃ y, w0.alloc (.cells #[.int .i64 t.k,.int .i64 0,.string ⟨#[]⟩,.int .i64 0,.string ⟨#[]⟩,.slice none 0 0,.int .i64 0,.string ⟨#[]⟩,.slice none 0 0,.int .i64 0,.string ⟨#[]⟩,.slice none 0 0,.int .i64 0,.int .i64 0,.int .i64 0,.int .i64 0,.int .i64 0] 72) = y:=⟨_, rfl⟩
 have bb : Below w0.heap.size w0 w1:=hw1 ▸ qalloc _ _
 have X : Loc w1 w0.heap.size #[.int .i64 t.k,.int .i64 0,.string ⟨#[]⟩,.int .i64 0,.string ⟨#[]⟩,.slice none 0 0,.int .i64 0,.string ⟨#[]⟩,.slice none 0 0,.int .i64 0,.string ⟨#[]⟩,.slice none 0 0,.int .i64 0,.int .i64 0,.int .i64 0,.int .i64 0,.int .i64 0]:=hw1 ▸ loc_at w0 _ _ rfl
 have zw1 : w0.heap.size + 1 ≤ w1.heap.size:=by rw [← hw1]; simp
 rw [hw1]
 clear hw1
 have Bw1:=bu Bw0 bb
 have sw1:=bb.size
 replace A:=A.up bb
 clear Bw0 bb
 have SM':=SM.out _ (rinone _) (rinone _) (rinone _) (ha1.out.below Bw1) (hb1.out.below Bw1) (hc1.out.below Bw1)
 clear SM ha1 hb1 hc1
 have H5:=hide SM'
 clear SM'
 have cA0:=A.cell 0 rfl
 go_wp2_with (first | (refine wload X 72 _ rfl _ rfl rfl Tryz.underlying72 rfl (by kernel_rfl) ?_) | (refine wload A 72 _ rfl _ rfl rfl Tryz.underlying72 rfl (by kernel_rfl) ?_))
 refine H5.out.mono ?_
 rintro _ w2 ⟨rfl, bb⟩
 clear cA0
 have Bw2:=bu Bw1 bb
 have sw2:=bb.size
 replace A:=A.up bb
 replace X:=X.up bb
 clear Bw1 bb
 go_wp2
 go_ret
 exact ⟨rfl, Bw2⟩

theorem l14Zero_any (t : MT) (ao bo co : Option Addr) (ca cb cc : Nat) (w : World) (ha : RI w (.slice ao t.bw.length ca) t.bw) (hb : RI w (.slice bo t.pw.length cb) t.pw) (hc : RI w (.slice co t.qw.length cc) t.qw) :
 Calls Tryz.prog 132 #[mgv t (.slice ao t.bw.length ca) (.slice bo t.pw.length cb) (.slice co t.qw.length cc)] w fun e w' => e = .returned (.bool (zerB t)) ∧ Below w.heap.size w w' := by
 unfold zerB
 rcases kinds t.k with h | h | h | h | ⟨h1, h2, h3, h4⟩
 ·rw [nam1 h]; exact l14Zero_1 t ao bo co ca cb cc w h ha hb hc
 ·rw [nam2 h]; exact l14Zero_2 t ao bo co ca cb cc w h ha hb hc
 ·rw [nam3 h]; exact l14Zero_3 t ao bo co ca cb cc w h ha hb hc
 ·rw [nam4 h]; exact l14Zero_4 t ao bo co ca cb cc w h ha hb hc
 rw [nam0 h1 h2 h3 h4]; exact l14Zero_0 t ao bo co ca cb cc w h1 h2 h3 h4 ha hb hc
end
section
open Go.RowKit
variable [∀ (a b c d : Int), Decidable (Ok4 a b c d)]
variable [∀ (a b c d : Nat), Decidable (okN a b c d)]
variable [∀ (last : Int) (s : St), Decidable (GoodSt last s)]
variable [∀ (x : T4), Decidable (OkT x)]
variable [∀ (n : Int) (s : List Int), Decidable (OkL n s)]
variable [∀ (n f : Int), Decidable (COk n f)]
theorem str_yes {s t : ByteArray} (h : s = t) : (s.toList == t.toList) = true := by simp [h]
theorem implBlockOk (n f : Int) (m : ByteArray) (v : Int) (s : ByteArray) (ao : Option Addr) (ca : Nat) (xs : List Int) (w : World) (hm : m.size ≤ 33554432) (hs : s.size ≤ 33554432) (hE : Env w) (ha : RI w (.slice ao xs.length ca) xs) :
 Calls Tryz.prog 340 #[cv n f, bv m v s (.slice ao xs.length ca)] w fun e w' => e = .returned (.bool (bokB n f m v s xs)) ∧ Below w.heap.size w w' := by
 obtain ⟨w0, hw0, Bw0, LC, LB, _⟩:=bx2 w #[.int .i64 n,.int .i64 f] 49 #[.string m,.int .i64 v,.string s,.slice ao xs.length ca] 68
 have OK:=hide fun w' (b : Below w0.heap.size w0 w') => implQcOk n f v s ao ca xs w' hs ((hE.below Bw0).below b) ((ha.below Bw0).below b)
 have HT:=hide fun w' (b : Below w0.heap.size w0 w') => implHeight m w' hm ((hE.below Bw0).below b)
 have UP:=hide fun w' (b : Below w0.heap.size w0 w') => implUpOf m w' hm ((hE.below Bw0).below b)
 have hB : bokB n f m v s xs = (qokB n f v s xs && decide (0 < heightAns m) && decide (upAns m = s)):=rfl
 rw [hB]
 clear hB ha hE
 generalize qokB n f v s xs = q at *
 generalize heightAns m = k at *
 generalize upAns m = u at *
 cases q
 ·simp only [Bool.false_and]
  go_enter Tryz.func340, Tryz.ntmps340
  have K:=kw (ka (kc2 LC 0 1) (kc4 LB 0 1 2 3))
  go_upto_region 1 with fail
  clear hw0
  refine wra K (fun bA hHeld => ?_)
  refine tx 0 5 ?_
  refine tx 1 6 ?_
  refine tx 2 7 ?_
  refine rd 3 rfl (fun KK hKK => ?_)
  go_simp
  have hgo:=bA
  refine (OK.out _ hgo).mono ?_
  rintro e wz1_1 ⟨rfl, bb⟩
  have bz1 : Below w0.heap.size w0 wz1_1:=bu bA bb
  clear bA hgo bb hHeld
  refine hKK.out _ _ (K.out _ bz1) (fun hHeld => ?_)
  clear hKK KK
  refine tx 4 9 ?_
  refine sx 5 10 ?_
  refine sx 6 11 ?_
  refine sx 7 12 ?_
  refine sx 8 13 ?_
  refine tx 9 14 ?_
  refine tx 10 15 ?_
  refine sx 11 16 ?_
  refine sx 14 19 ?_
  refine sx 12 17 ?_
  refine sx 15 20 ?_
  refine sx 13 18 ?_
  refine sx 16 21 ?_
  refine sx 17 22 ?_
  refine tx 18 23 ?_
  refine tx 19 4 ?_
  clear hHeld
  refine wdn ?_
  have bb:=bz1
  have Bwz1_1:=bu Bw0 bb
  have swz1_1:=bb.size
  replace LC:=LC.up bb
  replace LB:=LB.up bb
  clear Bw0 bb bz1 K
  go_wp2
  go_ret
  exact ⟨rfl, Bwz1_1⟩
 simp only [Bool.true_and]
 by_cases hk : 0 < k
 ·have hd : decide (0 < k) = true:=by simpa using hk
  rw [hd, Bool.true_and]
  by_cases hu : u = s
  ·have hv : decide (u = s) = true:=by simpa using hu
   have hy:=str_yes hu
   rw [hv]
   clear hu hv
   go_enter Tryz.func340, Tryz.ntmps340
   have K:=kw (ka (kc2 LC 0 1) (kc4 LB 0 1 2 3))
   go_upto_region 1 with fail
   clear hw0
   refine wra K (fun bA hHeld => ?_)
   refine tx 0 5 ?_
   refine tx 1 6 ?_
   refine tx 2 7 ?_
   refine rd 3 rfl (fun KK hKK => ?_)
   go_simp
   have hgo:=bA
   refine (OK.out _ hgo).mono ?_
   rintro e wz1_1 ⟨rfl, bb⟩
   have bz1 : Below w0.heap.size w0 wz1_1:=bu bA bb
   clear bA hgo bb hHeld
   refine hKK.out _ _ (K.out _ bz1) (fun hHeld => ?_)
   clear hKK KK
   refine tx 4 9 ?_
   refine tx 5 10 ?_
   refine tx 6 11 ?_
   refine rd 7 rfl (fun KK hKK => ?_)
   go_simp
   have hgo:=bz1
   refine (HT.out _ hgo).mono ?_
   rintro e wz1_2 ⟨rfl, bb⟩
   have bz2 : Below w0.heap.size w0 wz1_2:=bu bz1 bb
   clear bz1 hgo bb hHeld
   refine hKK.out _ _ (K.out _ bz2) (fun hHeld => ?_)
   clear hKK KK
   refine tx 8 13 ?_
   refine tx 9 14 ?_
   refine tx 10 15 ?_
   refine tx 11 16 ?_
   refine tx 14 19 ?_
   refine tx 12 17 ?_
   refine tx 15 20 ?_
   refine tx 16 21 ?_
   refine rd 13 rfl (fun KK hKK => ?_)
   go_simp
   have hgo:=bz2
   refine (UP.out _ hgo).mono ?_
   rintro e wz1_3 ⟨rfl, bb⟩
   have bz3 : Below w0.heap.size w0 wz1_3:=bu bz2 bb
   clear bz2 hgo bb hHeld
   refine hKK.out _ _ (K.out _ bz3) (fun hHeld => ?_)
   clear hKK KK
   refine tx 17 22 ?_
   refine tx 18 23 ?_
   refine tx 19 4 ?_
   clear hHeld
   refine wdn ?_
   have bb:=bz3
   have Bwz1_3:=bu Bw0 bb
   have swz1_3:=bb.size
   replace LC:=LC.up bb
   replace LB:=LB.up bb
   clear Bw0 bb bz3 K
   go_wp2
   go_ret
   exact ⟨rfl, Bwz1_3⟩
  have hv : decide (u = s) = false:=by simpa using hu
  have hy:=str_ne hu
  rw [hv]
  clear hu hv
  go_enter Tryz.func340, Tryz.ntmps340
  have K:=kw (ka (kc2 LC 0 1) (kc4 LB 0 1 2 3))
  go_upto_region 1 with fail
  clear hw0
  refine wra K (fun bA hHeld => ?_)
  refine tx 0 5 ?_
  refine tx 1 6 ?_
  refine tx 2 7 ?_
  refine rd 3 rfl (fun KK hKK => ?_)
  go_simp
  have hgo:=bA
  refine (OK.out _ hgo).mono ?_
  rintro e wz1_1 ⟨rfl, bb⟩
  have bz1 : Below w0.heap.size w0 wz1_1:=bu bA bb
  clear bA hgo bb hHeld
  refine hKK.out _ _ (K.out _ bz1) (fun hHeld => ?_)
  clear hKK KK
  refine tx 4 9 ?_
  refine tx 5 10 ?_
  refine tx 6 11 ?_
  refine rd 7 rfl (fun KK hKK => ?_)
  go_simp
  have hgo:=bz1
  refine (HT.out _ hgo).mono ?_
  rintro e wz1_2 ⟨rfl, bb⟩
  have bz2 : Below w0.heap.size w0 wz1_2:=bu bz1 bb
  clear bz1 hgo bb hHeld
  refine hKK.out _ _ (K.out _ bz2) (fun hHeld => ?_)
  clear hKK KK
  refine tx 8 13 ?_
  refine tx 9 14 ?_
  refine tx 10 15 ?_
  refine tx 11 16 ?_
  refine tx 14 19 ?_
  refine tx 12 17 ?_
  refine tx 15 20 ?_
  refine tx 16 21 ?_
  refine rd 13 rfl (fun KK hKK => ?_)
  go_simp
  have hgo:=bz2
  refine (UP.out _ hgo).mono ?_
  rintro e wz1_3 ⟨rfl, bb⟩
  have bz3 : Below w0.heap.size w0 wz1_3:=bu bz2 bb
  clear bz2 hgo bb hHeld
  refine hKK.out _ _ (K.out _ bz3) (fun hHeld => ?_)
  clear hKK KK
  refine tx 17 22 ?_
  refine tx 18 23 ?_
  refine tx 19 4 ?_
  clear hHeld
  refine wdn ?_
  have bb:=bz3
  have Bwz1_3:=bu Bw0 bb
  have swz1_3:=bb.size
  replace LC:=LC.up bb
  replace LB:=LB.up bb
  clear Bw0 bb bz3 K
  go_wp2
  go_ret
  exact ⟨rfl, Bwz1_3⟩
 have hd : decide (0 < k) = false:=by simpa using hk
 rw [hd, Bool.false_and]
 go_enter Tryz.func340, Tryz.ntmps340
 have K:=kw (ka (kc2 LC 0 1) (kc4 LB 0 1 2 3))
 go_upto_region 1 with fail
 clear hw0
 refine wra K (fun bA hHeld => ?_)
 refine tx 0 5 ?_
 refine tx 1 6 ?_
 refine tx 2 7 ?_
 refine rd 3 rfl (fun KK hKK => ?_)
 go_simp
 have hgo:=bA
 refine (OK.out _ hgo).mono ?_
 rintro e wz1_1 ⟨rfl, bb⟩
 have bz1 : Below w0.heap.size w0 wz1_1:=bu bA bb
 clear bA hgo bb hHeld
 refine hKK.out _ _ (K.out _ bz1) (fun hHeld => ?_)
 clear hKK KK
 refine tx 4 9 ?_
 refine tx 5 10 ?_
 refine tx 6 11 ?_
 refine rd 7 rfl (fun KK hKK => ?_)
 go_simp
 have hgo:=bz1
 refine (HT.out _ hgo).mono ?_
 rintro e wz1_2 ⟨rfl, bb⟩
 have bz2 : Below w0.heap.size w0 wz1_2:=bu bz1 bb
 clear bz1 hgo bb hHeld
 refine hKK.out _ _ (K.out _ bz2) (fun hHeld => ?_)
 clear hKK KK
 refine tx 8 13 ?_
 refine tx 9 14 ?_
 refine tx 10 15 ?_
 refine sx 11 16 ?_
 refine sx 14 19 ?_
 refine sx 12 17 ?_
 refine sx 15 20 ?_
 refine sx 13 18 ?_
 refine sx 16 21 ?_
 refine sx 17 22 ?_
 refine tx 18 23 ?_
 refine tx 19 4 ?_
 clear hHeld
 refine wdn ?_
 have bb:=bz2
 have Bwz1_2:=bu Bw0 bb
 have swz1_2:=bb.size
 replace LC:=LC.up bb
 replace LB:=LB.up bb
 clear Bw0 bb bz2 K
 go_wp2
 go_ret
 exact ⟨rfl, Bwz1_2⟩

theorem specBlockOk (n f : Int) (m : ByteArray) (v : Int) (s : ByteArray) (ao : Option Addr) (ca : Nat) (xs : List Int) (w : World) (hm : m.size ≤ 1048576) (hs : s.size ≤ 1048576) (ha : RI w (.slice ao xs.length ca) xs) :
 Calls Tryz.prog 133 #[cv n f, bv m v s (.slice ao xs.length ca)] w fun e w' => e = .returned (.bool (bokB n f m v s xs)) ∧ Below w.heap.size w w' := by
 obtain ⟨w0, hw0, Bw0, LC, LB, _⟩:=bx2 w #[.int .i64 n,.int .i64 f] 49 #[.string m,.int .i64 v,.string s,.slice ao xs.length ca] 68
 have OK:=hide fun w' (b : Below w0.heap.size w0 w') => specQcOk n f v s ao ca xs w' (by omega) ((ha.below Bw0).below b)
 have NO:=hide fun w' => specNameOk m w' (by omega)
 have UP:=hide fun w' => specUpOf m w' (by omega)
 have hB : bokB n f m v s xs = (qokB n f v s xs && ((stepsAns m).isSome && decide (m ≠ ⟨#[]⟩)) && decide (upAns m = s)):=by rw [← height_pos]; rfl
 rw [hB]
 clear hB ha
 generalize qokB n f v s xs = q at *
 generalize (stepsAns m).isSome = k at *
 generalize upAns m = u at *
 cases q
 ·simp only [Bool.false_and]
  go_enter Tryz.func133, Tryz.ntmps133
  have K:=kw (ka (kc2 LC 0 1) (kc4 LB 0 1 2 3))
  go_upto_region 1 with fail
  clear hw0
  refine wra K (fun bA hHeld => ?_)
  refine tx 0 5 ?_
  refine tx 1 6 ?_
  refine tx 2 7 ?_
  refine rd 3 rfl (fun KK hKK => ?_)
  go_simp
  have hgo:=bA
  refine (OK.out _ hgo).mono ?_
  rintro e wz1_1 ⟨rfl, bb⟩
  have bz1 : Below w0.heap.size w0 wz1_1:=bu bA bb
  clear bA hgo bb hHeld
  refine hKK.out _ _ (K.out _ bz1) (fun hHeld => ?_)
  clear hKK KK
  refine tx 4 9 ?_
  refine sx 5 10 ?_
  refine sx 6 11 ?_
  refine sx 7 12 ?_
  refine tx 8 13 ?_
  refine tx 9 14 ?_
  refine sx 10 15 ?_
  refine sx 11 16 ?_
  refine sx 12 17 ?_
  refine tx 13 18 ?_
  refine tx 14 19 ?_
  refine sx 15 20 ?_
  refine sx 18 23 ?_
  refine sx 16 21 ?_
  refine sx 19 24 ?_
  refine sx 17 22 ?_
  refine sx 20 25 ?_
  refine sx 21 26 ?_
  refine tx 22 27 ?_
  refine tx 23 4 ?_
  clear hHeld
  refine wdn ?_
  have bb:=bz1
  have Bwz1_1:=bu Bw0 bb
  have swz1_1:=bb.size
  replace LC:=LC.up bb
  replace LB:=LB.up bb
  clear Bw0 bb bz1 K
  go_wp2
  go_ret
  exact ⟨rfl, Bwz1_1⟩
 simp only [Bool.true_and]
 cases k
 ·simp only [Bool.false_and]
  go_enter Tryz.func133, Tryz.ntmps133
  have K:=kw (ka (kc2 LC 0 1) (kc4 LB 0 1 2 3))
  go_upto_region 1 with fail
  clear hw0
  refine wra K (fun bA hHeld => ?_)
  refine tx 0 5 ?_
  refine tx 1 6 ?_
  refine tx 2 7 ?_
  refine rd 3 rfl (fun KK hKK => ?_)
  go_simp
  have hgo:=bA
  refine (OK.out _ hgo).mono ?_
  rintro e wz1_1 ⟨rfl, bb⟩
  have bz1 : Below w0.heap.size w0 wz1_1:=bu bA bb
  clear bA hgo bb hHeld
  refine hKK.out _ _ (K.out _ bz1) (fun hHeld => ?_)
  clear hKK KK
  refine tx 4 9 ?_
  refine tx 5 10 ?_
  refine tx 6 11 ?_
  refine rd 7 rfl (fun KK hKK => ?_)
  go_simp
  have hgo:=bz1
  refine (NO.out _).mono ?_
  rintro e wz1_2 ⟨rfl, bb⟩
  have bz2 : Below w0.heap.size w0 wz1_2:=bu bz1 bb
  clear bz1 hgo bb hHeld
  refine hKK.out _ _ (K.out _ bz2) (fun hHeld => ?_)
  clear hKK KK
  refine tx 8 13 ?_
  refine tx 9 14 ?_
  refine sx 10 15 ?_
  refine sx 11 16 ?_
  refine sx 12 17 ?_
  refine tx 13 18 ?_
  refine tx 14 19 ?_
  refine sx 15 20 ?_
  refine sx 18 23 ?_
  refine sx 16 21 ?_
  refine sx 19 24 ?_
  refine sx 17 22 ?_
  refine sx 20 25 ?_
  refine sx 21 26 ?_
  refine tx 22 27 ?_
  refine tx 23 4 ?_
  clear hHeld
  refine wdn ?_
  have bb:=bz2
  have Bwz1_2:=bu Bw0 bb
  have swz1_2:=bb.size
  replace LC:=LC.up bb
  replace LB:=LB.up bb
  clear Bw0 bb bz2 K
  go_wp2
  go_ret
  exact ⟨rfl, Bwz1_2⟩
 simp only [Bool.true_and]
 by_cases he : m = ⟨#[]⟩
 ·have hd : decide (m ≠ ⟨#[]⟩) = false:=by simpa using he
  have hy : (m.toList == []) = true:=by rw [he, ByteArray.toList_eq]; rfl
  rw [hd, Bool.false_and]
  clear he hd
  go_enter Tryz.func133, Tryz.ntmps133
  have K:=kw (ka (kc2 LC 0 1) (kc4 LB 0 1 2 3))
  go_upto_region 1 with fail
  clear hw0
  refine wra K (fun bA hHeld => ?_)
  refine tx 0 5 ?_
  refine tx 1 6 ?_
  refine tx 2 7 ?_
  refine rd 3 rfl (fun KK hKK => ?_)
  go_simp
  have hgo:=bA
  refine (OK.out _ hgo).mono ?_
  rintro e wz1_1 ⟨rfl, bb⟩
  have bz1 : Below w0.heap.size w0 wz1_1:=bu bA bb
  clear bA hgo bb hHeld
  refine hKK.out _ _ (K.out _ bz1) (fun hHeld => ?_)
  clear hKK KK
  refine tx 4 9 ?_
  refine tx 5 10 ?_
  refine tx 6 11 ?_
  refine rd 7 rfl (fun KK hKK => ?_)
  go_simp
  have hgo:=bz1
  refine (NO.out _).mono ?_
  rintro e wz1_2 ⟨rfl, bb⟩
  have bz2 : Below w0.heap.size w0 wz1_2:=bu bz1 bb
  clear bz1 hgo bb hHeld
  refine hKK.out _ _ (K.out _ bz2) (fun hHeld => ?_)
  clear hKK KK
  refine tx 8 13 ?_
  refine tx 9 14 ?_
  refine tx 10 15 ?_
  refine tx 11 16 ?_
  refine tx 12 17 ?_
  refine tx 13 18 ?_
  refine tx 14 19 ?_
  refine sx 15 20 ?_
  refine sx 18 23 ?_
  refine sx 16 21 ?_
  refine sx 19 24 ?_
  refine sx 17 22 ?_
  refine sx 20 25 ?_
  refine sx 21 26 ?_
  refine tx 22 27 ?_
  refine tx 23 4 ?_
  clear hHeld
  refine wdn ?_
  have bb:=bz2
  have Bwz1_2:=bu Bw0 bb
  have swz1_2:=bb.size
  replace LC:=LC.up bb
  replace LB:=LB.up bb
  clear Bw0 bb bz2 K
  go_wp2
  go_ret
  exact ⟨rfl, Bwz1_2⟩
 have hd : decide (m ≠ ⟨#[]⟩) = true:=by simpa using he
 have hne:=ne2 he
 rw [hd, Bool.true_and]
 clear he hd
 by_cases hu : u = s
 ·have hv : decide (u = s) = true:=by simpa using hu
  have hy:=str_yes hu
  rw [hv]
  clear hu hv
  go_enter Tryz.func133, Tryz.ntmps133
  have K:=kw (ka (kc2 LC 0 1) (kc4 LB 0 1 2 3))
  go_upto_region 1 with fail
  clear hw0
  refine wra K (fun bA hHeld => ?_)
  refine tx 0 5 ?_
  refine tx 1 6 ?_
  refine tx 2 7 ?_
  refine rd 3 rfl (fun KK hKK => ?_)
  go_simp
  have hgo:=bA
  refine (OK.out _ hgo).mono ?_
  rintro e wz1_1 ⟨rfl, bb⟩
  have bz1 : Below w0.heap.size w0 wz1_1:=bu bA bb
  clear bA hgo bb hHeld
  refine hKK.out _ _ (K.out _ bz1) (fun hHeld => ?_)
  clear hKK KK
  refine tx 4 9 ?_
  refine tx 5 10 ?_
  refine tx 6 11 ?_
  refine rd 7 rfl (fun KK hKK => ?_)
  go_simp
  have hgo:=bz1
  refine (NO.out _).mono ?_
  rintro e wz1_2 ⟨rfl, bb⟩
  have bz2 : Below w0.heap.size w0 wz1_2:=bu bz1 bb
  clear bz1 hgo bb hHeld
  refine hKK.out _ _ (K.out _ bz2) (fun hHeld => ?_)
  clear hKK KK
  refine tx 8 13 ?_
  refine tx 9 14 ?_
  refine tx 10 15 ?_
  refine tx 11 16 ?_
  refine tx 12 17 ?_
  refine tx 13 18 ?_
  refine tx 14 19 ?_
  refine tx 15 20 ?_
  refine tx 18 23 ?_
  refine tx 16 21 ?_
  refine tx 19 24 ?_
  refine tx 20 25 ?_
  refine rd 17 rfl (fun KK hKK => ?_)
  go_simp
  have hgo:=bz2
  refine (UP.out _).mono ?_
  rintro e wz1_3 ⟨rfl, bb⟩
  have bz3 : Below w0.heap.size w0 wz1_3:=bu bz2 bb
  clear bz2 hgo bb hHeld
  refine hKK.out _ _ (K.out _ bz3) (fun hHeld => ?_)
  clear hKK KK
  refine tx 21 26 ?_
  refine tx 22 27 ?_
  refine tx 23 4 ?_
  clear hHeld
  refine wdn ?_
  have bb:=bz3
  have Bwz1_3:=bu Bw0 bb
  have swz1_3:=bb.size
  replace LC:=LC.up bb
  replace LB:=LB.up bb
  clear Bw0 bb bz3 K
  go_wp2
  go_ret
  exact ⟨rfl, Bwz1_3⟩
 have hv : decide (u = s) = false:=by simpa using hu
 have hy:=str_ne hu
 rw [hv]
 clear hu hv
 go_enter Tryz.func133, Tryz.ntmps133
 have K:=kw (ka (kc2 LC 0 1) (kc4 LB 0 1 2 3))
 go_upto_region 1 with fail
 clear hw0
 refine wra K (fun bA hHeld => ?_)
 refine tx 0 5 ?_
 refine tx 1 6 ?_
 refine tx 2 7 ?_
 refine rd 3 rfl (fun KK hKK => ?_)
 go_simp
 have hgo:=bA
 refine (OK.out _ hgo).mono ?_
 rintro e wz1_1 ⟨rfl, bb⟩
 have bz1 : Below w0.heap.size w0 wz1_1:=bu bA bb
 clear bA hgo bb hHeld
 refine hKK.out _ _ (K.out _ bz1) (fun hHeld => ?_)
 clear hKK KK
 refine tx 4 9 ?_
 refine tx 5 10 ?_
 refine tx 6 11 ?_
 refine rd 7 rfl (fun KK hKK => ?_)
 go_simp
 have hgo:=bz1
 refine (NO.out _).mono ?_
 rintro e wz1_2 ⟨rfl, bb⟩
 have bz2 : Below w0.heap.size w0 wz1_2:=bu bz1 bb
 clear bz1 hgo bb hHeld
 refine hKK.out _ _ (K.out _ bz2) (fun hHeld => ?_)
 clear hKK KK
 refine tx 8 13 ?_
 refine tx 9 14 ?_
 refine tx 10 15 ?_
 refine tx 11 16 ?_
 refine tx 12 17 ?_
 refine tx 13 18 ?_
 refine tx 14 19 ?_
 refine tx 15 20 ?_
 refine tx 18 23 ?_
 refine tx 16 21 ?_
 refine tx 19 24 ?_
 refine tx 20 25 ?_
 refine rd 17 rfl (fun KK hKK => ?_)
 go_simp
 have hgo:=bz2
 refine (UP.out _).mono ?_
 rintro e wz1_3 ⟨rfl, bb⟩
 have bz3 : Below w0.heap.size w0 wz1_3:=bu bz2 bb
 clear bz2 hgo bb hHeld
 refine hKK.out _ _ (K.out _ bz3) (fun hHeld => ?_)
 clear hKK KK
 refine tx 21 26 ?_
 refine tx 22 27 ?_
 refine tx 23 4 ?_
 clear hHeld
 refine wdn ?_
 have bb:=bz3
 have Bwz1_3:=bu Bw0 bb
 have swz1_3:=bb.size
 replace LC:=LC.up bb
 replace LB:=LB.up bb
 clear Bw0 bb bz3 K
 go_wp2
 go_ret
 exact ⟨rfl, Bwz1_3⟩
end
end Go.Proofs.YtjdchloechcclaaGreatDoor
