/- Lemmas, as stated. -/
import Derived.Test.YtjdchloechcclaaGreatDoorSNBB
import Derived.Test.YtjdchloechcclaaGreatDoorSNBA
set_option maxRecDepth 100000
set_option maxHeartbeats 16000000
set_option linter.unusedSectionVars false
namespace Go.Proofs.YtjdchloechcclaaGreatDoor
section
open Go.RowKit
variable [∀ (a b c d : Int), Decidable (Ok4 a b c d)]
variable [∀ (a b c d : Nat), Decidable (okN a b c d)]
variable [∀ (last : Int) (s : St), Decidable (GoodSt last s)]
variable [∀ (x : T4), Decidable (OkT x)]
variable [∀ (n : Int) (s : List Int), Decidable (OkL n s)]
variable [∀ (n f : Int), Decidable (COk n f)]
def rgtX (t : MT) : Bool := decide (Ok4 t.fr t.tu t.am t.no)
def rgtB (n f : Int) (t : MT) : Bool := bokB n f t.bn t.bv t.bs t.bw
def rgtP (n f : Int) (t : MT) : Bool := pokB n f t.pv t.ps t.pw && !(t.ps.toList == [])
def rgtV (n f : Int) (t : MT) : Bool := decide (1 ≤ t.vw ∧ t.vw ≤ 60) && (qokB n f t.qv t.qs t.qw && decide (0 ≤ t.wh ∧ t.wh ≤ n - 1))
def rgt (n f : Int) (t : MT) : Bool := if t.k = 1 then rgtB n f t else if t.k = 2 then rgtP n f t else if t.k = 3 then rgtV n f t else if t.k = 4 then rgtX t else false
theorem rgt1 {n f : Int} {t : MT} (h : t.k = 1) : rgt n f t = rgtB n f t := by unfold rgt; rw [if_pos h]
theorem rgt2 {n f : Int} {t : MT} (h : t.k = 2) : rgt n f t = rgtP n f t := by unfold rgt; rw [if_neg (by omega), if_pos h]
theorem rgt3 {n f : Int} {t : MT} (h : t.k = 3) : rgt n f t = rgtV n f t := by unfold rgt; rw [if_neg (by omega), if_neg (by omega), if_pos h]
theorem rgt4 {n f : Int} {t : MT} (h : t.k = 4) : rgt n f t = rgtX t := by unfold rgt; rw [if_neg (by omega), if_neg (by omega), if_neg (by omega), if_pos h]
theorem rgt0 {n f : Int} {t : MT} (h1 : ¬ t.k = 1) (h2 : ¬ t.k = 2) (h3 : ¬ t.k = 3) (h4 : ¬ t.k = 4) : rgt n f t = false := by unfold rgt; rw [if_neg h1, if_neg h2, if_neg h3, if_neg h4]
def mokB (n f : Int) (t : MT) : Bool := decide (COk n f) && (zerB t && rgt n f t)
def MS (t : MT) : Prop := t.bn.size ≤ 1048576 ∧ t.bs.size ≤ 1048576 ∧ t.ps.size ≤ 1048576 ∧ t.qs.size ≤ 1048576
theorem specMsgOk_1 (n f : Int) (t : MT) (ao bo co : Option Addr) (ca cb cc : Nat) (w : World) (hk : t.k = 1) (hs : MS t) (ha : RI w (.slice ao t.bw.length ca) t.bw) (hb : RI w (.slice bo t.pw.length cb) t.pw) (hc : RI w (.slice co t.qw.length cc) t.qw) :
 Calls Tryz.prog 97 #[cv n f, mgv t (.slice ao t.bw.length ca) (.slice bo t.pw.length cb) (.slice co t.qw.length cc)] w fun e w' => e = .returned (.bool (decide (COk n f) && (zerB t && rgtB n f t))) ∧ Below w.heap.size w w' := by
 have dk1 : decide (t.k = 1) = true:=by simpa using hk
 have ek1 : (t.k == 1) = true:=by simpa using hk
 obtain ⟨s1, s2, s3, s4⟩:=hs
 have IN : Hid (∀ (x lo hi : Int) (w : World), Calls Tryz.prog 92 #[.int .i64 x,.int .i64 lo,.int .i64 hi] w fun e w' => e = .returned (.bool (decide (lo ≤ x ∧ x ≤ hi))) ∧ Below w.heap.size w w'):=hide fun x lo hi w => (in_bool x lo hi w).mono (by rintro e w' ⟨h, rfl⟩; exact ⟨h, Below.refl _ _⟩)
 have CO:=hide fun w => specConfOk n f w
 have ZE:=hide fun w h1 h2 h3 => l14Zero_any t ao bo co ca cb cc w h1 h2 h3
 have BO:=hide fun w h => specBlockOk n f t.bn t.bv t.bs ao ca t.bw w s1 s2 h
 have PO:=hide fun w h => specPartOk n f t.pv t.ps (.slice bo t.pw.length cb) t.pw w s3 h
 have QO:=hide fun w h => specQcOk n f t.qv t.qs co cc t.qw w s4 h
 have TO:=hide fun w => specTxOk t.fr t.tu t.am t.no w
 have ha1:=hide ha
 have hb1:=hide hb
 have hc1:=hide hc
 clear ha hb hc s1 s2 s3 s4 hk
 unfold rgtB
 generalize bokB n f t.bn t.bv t.bs t.bw = r1 at *
 have HCO : Hid (decide (COk n f) = true → COk n f):=hide fun h => of_decide_eq_true h
 generalize decide (COk n f) = b1 at *
 generalize zerB t = b2 at *
 obtain ⟨w0, hw0, Bw0, LC, A, zw0⟩:=bx2 w #[.int .i64 n,.int .i64 f] 49 #[.int .i64 t.k,.int .i64 t.vw,.string t.bn,.int .i64 t.bv,.string t.bs,.slice ao t.bw.length ca,.int .i64 t.pv,.string t.ps,.slice bo t.pw.length cb,.int .i64 t.qv,.string t.qs,.slice co t.qw.length cc,.int .i64 t.wh,.int .i64 t.fr,.int .i64 t.tu,.int .i64 t.am,.int .i64 t.no] 72
 go_enter Tryz.func97, Tryz.ntmps97
 obtain ⟨cLC0,cLC1⟩:=cc2 LC 0 1
 go_wp2_with fail
 clear hw0
 refine (CO.out _).mono ?_
 rintro _ w1 ⟨rfl, bb⟩
 clear cLC0 cLC1
 have Bw1:=bu Bw0 bb
 have sw1:=bb.size
 replace LC:=LC.up bb
 replace A:=A.up bb
 clear Bw0 bb
 cases b1
 ·go_wp2
  go_ret
  exact ⟨by simp, Bw1⟩
 go_wp2_with (first | (refine wload A 72 _ rfl _ rfl rfl Tryz.underlying72 rfl (by kernel_rfl) ?_))
 refine (ZE.out _ (ha1.out.below Bw1) (hb1.out.below Bw1) (hc1.out.below Bw1)).mono ?_
 rintro _ w2 ⟨rfl, bb⟩
 have Bw2:=bu Bw1 bb
 have sw2:=bb.size
 replace LC:=LC.up bb
 replace A:=A.up bb
 clear Bw1 bb
 cases b2
 ·go_wp2
  go_ret
  exact ⟨by simp, Bw2⟩
 obtain ⟨cLC0,cLC1⟩:=cc2 LC 0 1
 obtain ⟨cA0,cA2,cA3,cA4,cA5⟩:=cc5 A 0 2 3 4 5
 go_wp2_with fail
 refine (BO.out _ (ha1.out.below Bw2)).mono ?_
 rintro _ w3 ⟨rfl, bb⟩
 clear cLC0 cLC1 cA0 cA2 cA3 cA4 cA5
 have Bw3:=bu Bw2 bb
 have sw3:=bb.size
 replace LC:=LC.up bb
 replace A:=A.up bb
 clear Bw2 bb
 go_wp2
 go_ret
 exact ⟨by simp, Bw3⟩
theorem specMsgOk_2 (n f : Int) (t : MT) (ao bo co : Option Addr) (ca cb cc : Nat) (w : World) (hk : t.k = 2) (hs : MS t) (ha : RI w (.slice ao t.bw.length ca) t.bw) (hb : RI w (.slice bo t.pw.length cb) t.pw) (hc : RI w (.slice co t.qw.length cc) t.qw) :
 Calls Tryz.prog 97 #[cv n f, mgv t (.slice ao t.bw.length ca) (.slice bo t.pw.length cb) (.slice co t.qw.length cc)] w fun e w' => e = .returned (.bool (decide (COk n f) && (zerB t && rgtP n f t))) ∧ Below w.heap.size w w' := by
 have dk1 : decide (t.k = 1) = false:=by simp; omega
 have ek1 : (t.k == 1) = false:=by simp; omega
 have dk2 : decide (t.k = 2) = true:=by simpa using hk
 have ek2 : (t.k == 2) = true:=by simpa using hk
 obtain ⟨s1, s2, s3, s4⟩:=hs
 have IN : Hid (∀ (x lo hi : Int) (w : World), Calls Tryz.prog 92 #[.int .i64 x,.int .i64 lo,.int .i64 hi] w fun e w' => e = .returned (.bool (decide (lo ≤ x ∧ x ≤ hi))) ∧ Below w.heap.size w w'):=hide fun x lo hi w => (in_bool x lo hi w).mono (by rintro e w' ⟨h, rfl⟩; exact ⟨h, Below.refl _ _⟩)
 have CO:=hide fun w => specConfOk n f w
 have ZE:=hide fun w h1 h2 h3 => l14Zero_any t ao bo co ca cb cc w h1 h2 h3
 have BO:=hide fun w h => specBlockOk n f t.bn t.bv t.bs ao ca t.bw w s1 s2 h
 have PO:=hide fun w h => specPartOk n f t.pv t.ps (.slice bo t.pw.length cb) t.pw w s3 h
 have QO:=hide fun w h => specQcOk n f t.qv t.qs co cc t.qw w s4 h
 have TO:=hide fun w => specTxOk t.fr t.tu t.am t.no w
 have ha1:=hide ha
 have hb1:=hide hb
 have hc1:=hide hc
 clear ha hb hc s1 s2 s3 s4 hk
 unfold rgtP
 generalize pokB n f t.pv t.ps t.pw = r1 at *
 have HCO : Hid (decide (COk n f) = true → COk n f):=hide fun h => of_decide_eq_true h
 generalize decide (COk n f) = b1 at *
 generalize zerB t = b2 at *
 obtain ⟨w0, hw0, Bw0, LC, A, zw0⟩:=bx2 w #[.int .i64 n,.int .i64 f] 49 #[.int .i64 t.k,.int .i64 t.vw,.string t.bn,.int .i64 t.bv,.string t.bs,.slice ao t.bw.length ca,.int .i64 t.pv,.string t.ps,.slice bo t.pw.length cb,.int .i64 t.qv,.string t.qs,.slice co t.qw.length cc,.int .i64 t.wh,.int .i64 t.fr,.int .i64 t.tu,.int .i64 t.am,.int .i64 t.no] 72
 go_enter Tryz.func97, Tryz.ntmps97
 obtain ⟨cLC0,cLC1⟩:=cc2 LC 0 1
 go_wp2_with fail
 clear hw0
 refine (CO.out _).mono ?_
 rintro _ w1 ⟨rfl, bb⟩
 clear cLC0 cLC1
 have Bw1:=bu Bw0 bb
 have sw1:=bb.size
 replace LC:=LC.up bb
 replace A:=A.up bb
 clear Bw0 bb
 cases b1
 ·go_wp2
  go_ret
  exact ⟨by simp, Bw1⟩
 go_wp2_with (first | (refine wload A 72 _ rfl _ rfl rfl Tryz.underlying72 rfl (by kernel_rfl) ?_))
 refine (ZE.out _ (ha1.out.below Bw1) (hb1.out.below Bw1) (hc1.out.below Bw1)).mono ?_
 rintro _ w2 ⟨rfl, bb⟩
 have Bw2:=bu Bw1 bb
 have sw2:=bb.size
 replace LC:=LC.up bb
 replace A:=A.up bb
 clear Bw1 bb
 cases b2
 ·go_wp2
  go_ret
  exact ⟨by simp, Bw2⟩
 obtain ⟨cLC0,cLC1⟩:=cc2 LC 0 1
 obtain ⟨cA0,cA6,cA7,cA8⟩:=cc4 A 0 6 7 8
 go_wp2_with fail
 refine (PO.out _ (hb1.out.below Bw2)).mono ?_
 rintro _ w3 ⟨rfl, bb⟩
 clear cLC0 cLC1 cA0 cA6 cA7 cA8
 have Bw3:=bu Bw2 bb
 have sw3:=bb.size
 replace LC:=LC.up bb
 replace A:=A.up bb
 clear Bw2 bb
 cases r1
 ·go_wp2
  go_ret
  exact ⟨by simp, Bw3⟩
 have cA7:=A.cell 7 rfl
 go_wp2
 go_ret
 exact ⟨by simp, Bw3⟩
theorem specMsgOk_3 (n f : Int) (t : MT) (ao bo co : Option Addr) (ca cb cc : Nat) (w : World) (hk : t.k = 3) (hs : MS t) (ha : RI w (.slice ao t.bw.length ca) t.bw) (hb : RI w (.slice bo t.pw.length cb) t.pw) (hc : RI w (.slice co t.qw.length cc) t.qw) :
 Calls Tryz.prog 97 #[cv n f, mgv t (.slice ao t.bw.length ca) (.slice bo t.pw.length cb) (.slice co t.qw.length cc)] w fun e w' => e = .returned (.bool (decide (COk n f) && (zerB t && rgtV n f t))) ∧ Below w.heap.size w w' := by
 have dk1 : decide (t.k = 1) = false:=by simp; omega
 have ek1 : (t.k == 1) = false:=by simp; omega
 have dk2 : decide (t.k = 2) = false:=by simp; omega
 have ek2 : (t.k == 2) = false:=by simp; omega
 have dk3 : decide (t.k = 3) = true:=by simpa using hk
 have ek3 : (t.k == 3) = true:=by simpa using hk
 obtain ⟨s1, s2, s3, s4⟩:=hs
 have IN : Hid (∀ (x lo hi : Int) (w : World), Calls Tryz.prog 92 #[.int .i64 x,.int .i64 lo,.int .i64 hi] w fun e w' => e = .returned (.bool (decide (lo ≤ x ∧ x ≤ hi))) ∧ Below w.heap.size w w'):=hide fun x lo hi w => (in_bool x lo hi w).mono (by rintro e w' ⟨h, rfl⟩; exact ⟨h, Below.refl _ _⟩)
 have CO:=hide fun w => specConfOk n f w
 have ZE:=hide fun w h1 h2 h3 => l14Zero_any t ao bo co ca cb cc w h1 h2 h3
 have BO:=hide fun w h => specBlockOk n f t.bn t.bv t.bs ao ca t.bw w s1 s2 h
 have PO:=hide fun w h => specPartOk n f t.pv t.ps (.slice bo t.pw.length cb) t.pw w s3 h
 have QO:=hide fun w h => specQcOk n f t.qv t.qs co cc t.qw w s4 h
 have TO:=hide fun w => specTxOk t.fr t.tu t.am t.no w
 have ha1:=hide ha
 have hb1:=hide hb
 have hc1:=hide hc
 clear ha hb hc s1 s2 s3 s4 hk
 unfold rgtV
 generalize qokB n f t.qv t.qs t.qw = r2 at *
 have i1:=hide fun w => IN.out t.vw 1 60 w
 have i2:=hide fun w => IN.out t.wh 0 (n - 1) w
 generalize decide (1 ≤ t.vw ∧ t.vw ≤ 60) = r1 at *
 generalize decide (0 ≤ t.wh ∧ t.wh ≤ n - 1) = r3 at *
 have wn0 : Hid (COk n f → IntKind.i64.wrap (n - 1) = n - 1):=hide fun h => by rw [IntKind.wrap_i64] <;> (unfold COk at h; omega)
 have HCO : Hid (decide (COk n f) = true → COk n f):=hide fun h => of_decide_eq_true h
 generalize decide (COk n f) = b1 at *
 generalize zerB t = b2 at *
 obtain ⟨w0, hw0, Bw0, LC, A, zw0⟩:=bx2 w #[.int .i64 n,.int .i64 f] 49 #[.int .i64 t.k,.int .i64 t.vw,.string t.bn,.int .i64 t.bv,.string t.bs,.slice ao t.bw.length ca,.int .i64 t.pv,.string t.ps,.slice bo t.pw.length cb,.int .i64 t.qv,.string t.qs,.slice co t.qw.length cc,.int .i64 t.wh,.int .i64 t.fr,.int .i64 t.tu,.int .i64 t.am,.int .i64 t.no] 72
 go_enter Tryz.func97, Tryz.ntmps97
 obtain ⟨cLC0,cLC1⟩:=cc2 LC 0 1
 go_wp2_with fail
 clear hw0
 refine (CO.out _).mono ?_
 rintro _ w1 ⟨rfl, bb⟩
 clear cLC0 cLC1
 have Bw1:=bu Bw0 bb
 have sw1:=bb.size
 replace LC:=LC.up bb
 replace A:=A.up bb
 clear Bw0 bb
 cases b1
 ·go_wp2
  go_ret
  exact ⟨by simp, Bw1⟩
 have wn:=wn0.out (HCO.out rfl)
 go_wp2_with (first | (refine wload A 72 _ rfl _ rfl rfl Tryz.underlying72 rfl (by kernel_rfl) ?_))
 refine (ZE.out _ (ha1.out.below Bw1) (hb1.out.below Bw1) (hc1.out.below Bw1)).mono ?_
 rintro _ w2 ⟨rfl, bb⟩
 have Bw2:=bu Bw1 bb
 have sw2:=bb.size
 replace LC:=LC.up bb
 replace A:=A.up bb
 clear Bw1 bb
 cases b2
 ·go_wp2
  go_ret
  exact ⟨by simp, Bw2⟩
 obtain ⟨cA0,cA1⟩:=cc2 A 0 1
 go_wp2_with fail
 refine (i1.out _).mono ?_
 rintro _ w3 ⟨rfl, bb⟩
 clear cA0 cA1
 have Bw3:=bu Bw2 bb
 have sw3:=bb.size
 replace LC:=LC.up bb
 replace A:=A.up bb
 clear Bw2 bb
 cases r1
 ·obtain ⟨cLC0,cLC1⟩:=cc2 LC 0 1
  have cA1:=A.cell 1 rfl
  go_wp2
  go_ret
  exact ⟨by simp, Bw3⟩
 obtain ⟨cLC0,cLC1⟩:=cc2 LC 0 1
 obtain ⟨cA9,cA10,cA11⟩:=cc3 A 9 10 11
 go_wp2_with fail
 refine (QO.out _ (hc1.out.below Bw3)).mono ?_
 rintro _ w4 ⟨rfl, bb⟩
 clear cLC0 cLC1 cA9 cA10 cA11
 have Bw4:=bu Bw3 bb
 have sw4:=bb.size
 replace LC:=LC.up bb
 replace A:=A.up bb
 clear Bw3 bb
 cases r2
 ·obtain ⟨cLC0,cLC1⟩:=cc2 LC 0 1
  obtain ⟨cA9,cA10,cA11⟩:=cc3 A 9 10 11
  go_wp2
  go_ret
  exact ⟨by simp, Bw4⟩
 obtain ⟨cLC0,cLC1⟩:=cc2 LC 0 1
 have cA12:=A.cell 12 rfl
 go_wp2_with fail
 refine (i2.out _).mono ?_
 rintro _ w5 ⟨rfl, bb⟩
 clear cLC0 cLC1 cA12
 have Bw5:=bu Bw4 bb
 have sw5:=bb.size
 replace LC:=LC.up bb
 replace A:=A.up bb
 clear Bw4 bb
 go_wp2
 go_ret
 exact ⟨by simp, Bw5⟩
theorem specMsgOk_4 (n f : Int) (t : MT) (ao bo co : Option Addr) (ca cb cc : Nat) (w : World) (hk : t.k = 4) (hs : MS t) (ha : RI w (.slice ao t.bw.length ca) t.bw) (hb : RI w (.slice bo t.pw.length cb) t.pw) (hc : RI w (.slice co t.qw.length cc) t.qw) :
 Calls Tryz.prog 97 #[cv n f, mgv t (.slice ao t.bw.length ca) (.slice bo t.pw.length cb) (.slice co t.qw.length cc)] w fun e w' => e = .returned (.bool (decide (COk n f) && (zerB t && rgtX t))) ∧ Below w.heap.size w w' := by
 have dk1 : decide (t.k = 1) = false:=by simp; omega
 have ek1 : (t.k == 1) = false:=by simp; omega
 have dk2 : decide (t.k = 2) = false:=by simp; omega
 have ek2 : (t.k == 2) = false:=by simp; omega
 have dk3 : decide (t.k = 3) = false:=by simp; omega
 have ek3 : (t.k == 3) = false:=by simp; omega
 have dk4 : decide (t.k = 4) = true:=by simpa using hk
 have ek4 : (t.k == 4) = true:=by simpa using hk
 obtain ⟨s1, s2, s3, s4⟩:=hs
 have IN : Hid (∀ (x lo hi : Int) (w : World), Calls Tryz.prog 92 #[.int .i64 x,.int .i64 lo,.int .i64 hi] w fun e w' => e = .returned (.bool (decide (lo ≤ x ∧ x ≤ hi))) ∧ Below w.heap.size w w'):=hide fun x lo hi w => (in_bool x lo hi w).mono (by rintro e w' ⟨h, rfl⟩; exact ⟨h, Below.refl _ _⟩)
 have CO:=hide fun w => specConfOk n f w
 have ZE:=hide fun w h1 h2 h3 => l14Zero_any t ao bo co ca cb cc w h1 h2 h3
 have BO:=hide fun w h => specBlockOk n f t.bn t.bv t.bs ao ca t.bw w s1 s2 h
 have PO:=hide fun w h => specPartOk n f t.pv t.ps (.slice bo t.pw.length cb) t.pw w s3 h
 have QO:=hide fun w h => specQcOk n f t.qv t.qs co cc t.qw w s4 h
 have TO:=hide fun w => specTxOk t.fr t.tu t.am t.no w
 have ha1:=hide ha
 have hb1:=hide hb
 have hc1:=hide hc
 clear ha hb hc s1 s2 s3 s4 hk
 unfold rgtX
 generalize decide (Ok4 t.fr t.tu t.am t.no) = r1 at *
 have HCO : Hid (decide (COk n f) = true → COk n f):=hide fun h => of_decide_eq_true h
 generalize decide (COk n f) = b1 at *
 generalize zerB t = b2 at *
 obtain ⟨w0, hw0, Bw0, LC, A, zw0⟩:=bx2 w #[.int .i64 n,.int .i64 f] 49 #[.int .i64 t.k,.int .i64 t.vw,.string t.bn,.int .i64 t.bv,.string t.bs,.slice ao t.bw.length ca,.int .i64 t.pv,.string t.ps,.slice bo t.pw.length cb,.int .i64 t.qv,.string t.qs,.slice co t.qw.length cc,.int .i64 t.wh,.int .i64 t.fr,.int .i64 t.tu,.int .i64 t.am,.int .i64 t.no] 72
 go_enter Tryz.func97, Tryz.ntmps97
 obtain ⟨cLC0,cLC1⟩:=cc2 LC 0 1
 go_wp2_with fail
 clear hw0
 refine (CO.out _).mono ?_
 rintro _ w1 ⟨rfl, bb⟩
 clear cLC0 cLC1
 have Bw1:=bu Bw0 bb
 have sw1:=bb.size
 replace LC:=LC.up bb
 replace A:=A.up bb
 clear Bw0 bb
 cases b1
 ·go_wp2
  go_ret
  exact ⟨by simp, Bw1⟩
 go_wp2_with (first | (refine wload A 72 _ rfl _ rfl rfl Tryz.underlying72 rfl (by kernel_rfl) ?_))
 refine (ZE.out _ (ha1.out.below Bw1) (hb1.out.below Bw1) (hc1.out.below Bw1)).mono ?_
 rintro _ w2 ⟨rfl, bb⟩
 have Bw2:=bu Bw1 bb
 have sw2:=bb.size
 replace LC:=LC.up bb
 replace A:=A.up bb
 clear Bw1 bb
 cases b2
 ·go_wp2
  go_ret
  exact ⟨by simp, Bw2⟩
 obtain ⟨cA0,cA13,cA14,cA15,cA16⟩:=cc5 A 0 13 14 15 16
 go_wp2_with fail
 refine (TO.out _).mono ?_
 rintro _ w3 ⟨rfl, bb⟩
 clear cA0 cA13 cA14 cA15 cA16
 have Bw3:=bu Bw2 bb
 have sw3:=bb.size
 replace LC:=LC.up bb
 replace A:=A.up bb
 clear Bw2 bb
 go_wp2
 go_ret
 exact ⟨by simp, Bw3⟩
theorem specMsgOk_0 (n f : Int) (t : MT) (ao bo co : Option Addr) (ca cb cc : Nat) (w : World) (h1 : ¬ t.k = 1) (h2 : ¬ t.k = 2) (h3 : ¬ t.k = 3) (h4 : ¬ t.k = 4) (hs : MS t) (ha : RI w (.slice ao t.bw.length ca) t.bw) (hb : RI w (.slice bo t.pw.length cb) t.pw) (hc : RI w (.slice co t.qw.length cc) t.qw) :
 Calls Tryz.prog 97 #[cv n f, mgv t (.slice ao t.bw.length ca) (.slice bo t.pw.length cb) (.slice co t.qw.length cc)] w fun e w' => e = .returned (.bool (decide (COk n f) && (zerB t && false))) ∧ Below w.heap.size w w' := by
 have dk1 : decide (t.k = 1) = false:=by simp; omega
 have ek1 : (t.k == 1) = false:=by simp; omega
 have dk2 : decide (t.k = 2) = false:=by simp; omega
 have ek2 : (t.k == 2) = false:=by simp; omega
 have dk3 : decide (t.k = 3) = false:=by simp; omega
 have ek3 : (t.k == 3) = false:=by simp; omega
 have dk4 : decide (t.k = 4) = false:=by simp; omega
 have ek4 : (t.k == 4) = false:=by simp; omega
 obtain ⟨s1, s2, s3, s4⟩:=hs
 have IN : Hid (∀ (x lo hi : Int) (w : World), Calls Tryz.prog 92 #[.int .i64 x,.int .i64 lo,.int .i64 hi] w fun e w' => e = .returned (.bool (decide (lo ≤ x ∧ x ≤ hi))) ∧ Below w.heap.size w w'):=hide fun x lo hi w => (in_bool x lo hi w).mono (by rintro e w' ⟨h, rfl⟩; exact ⟨h, Below.refl _ _⟩)
 have CO:=hide fun w => specConfOk n f w
 have ZE:=hide fun w h1 h2 h3 => l14Zero_any t ao bo co ca cb cc w h1 h2 h3
 have BO:=hide fun w h => specBlockOk n f t.bn t.bv t.bs ao ca t.bw w s1 s2 h
 have PO:=hide fun w h => specPartOk n f t.pv t.ps (.slice bo t.pw.length cb) t.pw w s3 h
 have QO:=hide fun w h => specQcOk n f t.qv t.qs co cc t.qw w s4 h
 have TO:=hide fun w => specTxOk t.fr t.tu t.am t.no w
 have ha1:=hide ha
 have hb1:=hide hb
 have hc1:=hide hc
 clear ha hb hc s1 s2 s3 s4
 have HCO : Hid (decide (COk n f) = true → COk n f):=hide fun h => of_decide_eq_true h
 generalize decide (COk n f) = b1 at *
 generalize zerB t = b2 at *
 obtain ⟨w0, hw0, Bw0, LC, A, zw0⟩:=bx2 w #[.int .i64 n,.int .i64 f] 49 #[.int .i64 t.k,.int .i64 t.vw,.string t.bn,.int .i64 t.bv,.string t.bs,.slice ao t.bw.length ca,.int .i64 t.pv,.string t.ps,.slice bo t.pw.length cb,.int .i64 t.qv,.string t.qs,.slice co t.qw.length cc,.int .i64 t.wh,.int .i64 t.fr,.int .i64 t.tu,.int .i64 t.am,.int .i64 t.no] 72
 go_enter Tryz.func97, Tryz.ntmps97
 obtain ⟨cLC0,cLC1⟩:=cc2 LC 0 1
 go_wp2_with fail
 clear hw0
 refine (CO.out _).mono ?_
 rintro _ w1 ⟨rfl, bb⟩
 clear cLC0 cLC1
 have Bw1:=bu Bw0 bb
 have sw1:=bb.size
 replace LC:=LC.up bb
 replace A:=A.up bb
 clear Bw0 bb
 cases b1
 ·go_wp2
  go_ret
  exact ⟨by simp, Bw1⟩
 go_wp2_with (first | (refine wload A 72 _ rfl _ rfl rfl Tryz.underlying72 rfl (by kernel_rfl) ?_))
 refine (ZE.out _ (ha1.out.below Bw1) (hb1.out.below Bw1) (hc1.out.below Bw1)).mono ?_
 rintro _ w2 ⟨rfl, bb⟩
 have Bw2:=bu Bw1 bb
 have sw2:=bb.size
 replace LC:=LC.up bb
 replace A:=A.up bb
 clear Bw1 bb
 cases b2
 ·go_wp2
  go_ret
  exact ⟨by simp, Bw2⟩
 have cA0:=A.cell 0 rfl
 go_wp2
 go_ret
 exact ⟨by simp, Bw2⟩
theorem specMsgOk (n f : Int) (t : MT) (ao bo co : Option Addr) (ca cb cc : Nat) (w : World) (hs : MS t) (ha : RI w (.slice ao t.bw.length ca) t.bw) (hb : RI w (.slice bo t.pw.length cb) t.pw) (hc : RI w (.slice co t.qw.length cc) t.qw) :
 Calls Tryz.prog 97 #[cv n f, mgv t (.slice ao t.bw.length ca) (.slice bo t.pw.length cb) (.slice co t.qw.length cc)] w fun e w' => e = .returned (.bool (mokB n f t)) ∧ Below w.heap.size w w' := by
 unfold mokB
 rcases kinds t.k with h | h | h | h | ⟨h1, h2, h3, h4⟩
 ·rw [rgt1 h]; exact specMsgOk_1 n f t ao bo co ca cb cc w h hs ha hb hc
 ·rw [rgt2 h]; exact specMsgOk_2 n f t ao bo co ca cb cc w h hs ha hb hc
 ·rw [rgt3 h]; exact specMsgOk_3 n f t ao bo co ca cb cc w h hs ha hb hc
 ·rw [rgt4 h]; exact specMsgOk_4 n f t ao bo co ca cb cc w h hs ha hb hc
 rw [rgt0 h1 h2 h3 h4]; exact specMsgOk_0 n f t ao bo co ca cb cc w h1 h2 h3 h4 hs ha hb hc
end
section
open Go Go.RowKit
variable [∀ (a b c d : Int), Decidable (Ok4 a b c d)]
variable [∀ (n f : Int), Decidable (COk n f)]
variable [∀ (a b c d : Nat), Decidable (okN a b c d)]
variable [∀ (x : T4), Decidable (OkT x)]
variable [∀ (last : Int) (s : St), Decidable (GoodSt last s)]
variable [∀ (n : Int) (s : List Int), Decidable (OkL n s)]
variable [∀ (x y : T4), Decidable (Bef x y)]
variable [∀ (ts : List T4), Decidable (Asc ts)]
variable [∀ (ts : List T4), Decidable (AllOk ts)]
variable [∀ (ts : List T4), Decidable (POk ts)]
def pstB (n f id : Int) (p : PoT) : Bool := mokB n f p.2 && (decide (0 ≤ p.1 ∧ p.1 ≤ n - 1) && !(decide (p.1 = id)))
def hokB (n f id : Int) (ps : List PoT) : Bool := ps.all (pstB n f id)
def repB (n f : Int) (t : RpT) : Bool := decide (COk n f) && (decide (0 ≤ t.id ∧ t.id ≤ n - 1) && (decide (1 ≤ t.vw ∧ t.vw ≤ 60) && (decide (0 ≤ t.ak ∧ t.ak ≤ 60) && (sokB n f t.vo t.lo t.n t.s t.qw t.d && (decide (POk t.pool) && (tokB n f t.tab && (dokB t.dsk.length t.su && (decide (t.held.length ≤ 30) && hokB n f t.id t.held))))))))
theorem hok_no {n f id : Int} {ps : List PoT} {k : Nat} (hk : k < ps.length) (h : pstB n f id (ps.getD k zpost) = false) : hokB n f id ps = false := by
 unfold hokB
 rw [List.all_eq_false]
 exact ⟨ps.getD k zpost, by rw [List.getD_eq_getElem?_getD, List.getElem?_eq_getElem hk]; exact List.getElem_mem hk, by rw [h]; simp⟩
theorem hok_next {n f id : Int} {ps : List PoT} {k : Nat} (hk : k < ps.length) (h0 : hokB n f id (ps.take k) = true) (h : pstB n f id (ps.getD k zpost) = true) : hokB n f id (ps.take (k + 1)) = true := by
 unfold hokB at h0 ⊢
 rw [List.take_succ_eq_append_getElem hk, List.all_append, h0]
 have : ps.getD k zpost = ps[k]:=by simp [List.getElem?_eq_getElem hk]
 rw [← this]
 simp only [List.all_cons, List.all_nil, h, Bool.and_true]
theorem rangeAt_tail {w : World} {b o : Nat} {c : Value} {cs : List Value} (h : w.rangeAt b o (c :: cs)) : w.rangeAt b (o + 1) cs := fun j v hv => by
 have:=h (j + 1) v (by simpa using hv)
 rw [show o + 1 + j = o + (j + 1) by omega]; exact this
structure RS (t : RpT) : Prop where
 s : t.s.size ≤ 1048576
 d : t.d.size ≤ 1048576
 tb : ∀ p ∈ t.tab, p.2.1.size ≤ 1048576
 h : ∀ j, j < t.held.length → MS (t.held.getD j zpost).2
theorem specRepOk (n f : Int) (t : RpT) (ao bo co od oe : Option Addr) (ca cb cc cd ce : Nat) (w : World) (hm : RSm t) (hs : RS t) (h : RRep w t (.slice ao t.qw.length ca) (.slice bo t.pool.length cb) (.slice co t.tab.length cc) (.slice od t.dsk.length cd) (.slice oe t.held.length ce)) :
 Calls Tryz.prog 34 #[cv n f, rpv t (.slice ao t.qw.length ca) (.slice bo t.pool.length cb) (.slice co t.tab.length cc) (.slice od t.dsk.length cd) (.slice oe t.held.length ce)] w fun e w' => e = .returned (.bool (repB n f t)) ∧ Below w.heap.size w w' := by
 have IN : Hid (∀ (x lo hi : Int) (w : World), Calls Tryz.prog 92 #[.int .i64 x,.int .i64 lo,.int .i64 hi] w fun e w' => e = .returned (.bool (decide (lo ≤ x ∧ x ≤ hi))) ∧ Below w.heap.size w w'):=hide fun x lo hi w => (in_bool x lo hi w).mono (by rintro e w' ⟨h, rfl⟩; exact ⟨h, Below.refl _ _⟩)
 have CO:=hide fun w => specConfOk n f w
 have SO:=hide fun w h => specSafeOk n f t.vo t.lo t.n t.s ao ca t.qw t.d w hs.s hs.d h
 have PO:=hide fun w h => specPoolOk (.slice bo t.pool.length cb) t.pool w h
 have TO:=hide fun w h => specTableOk n f (.slice co t.tab.length cc) t.tab w (by have:=hm.tb; omega) hs.tb h
 have DO:=hide fun w => specDiskOk od t.dsk.length cd t.su w
 have MO:=hide fun j hj a b c ka kb kc w h1 h2 h3 => specMsgOk n f (t.held.getD j zpost).2 a b c ka kb kc w (hs.h j hj) h1 h2 h3
 have HR:=hide h
 have HCO : Hid (decide (COk n f) = true → IntKind.i64.wrap (n - 1) = n - 1):=hide fun h => by have:=of_decide_eq_true h; rw [IntKind.wrap_i64] <;> (unfold COk at this; omega)
 clear h hs
 have i1:=hide fun w => IN.out t.id 0 (n - 1) w
 have i2:=hide fun w => IN.out t.vw 1 60 w
 have i3:=hide fun w => IN.out t.ak 0 60 w
 have i4:=hide fun x w => IN.out x 0 (n - 1) w
 unfold repB
 have NX:=hide fun k (hk : k < t.held.length) (h0 : hokB n f t.id (t.held.take k) = true) (h : pstB n f t.id (t.held.getD k zpost) = true) => hok_next hk h0 h
 have NO:=hide fun k (hk : k < t.held.length) (h : pstB n f t.id (t.held.getD k zpost) = false) => hok_no hk h
 have FU : Hid (hokB n f t.id (t.held.take t.held.length) = true → hokB n f t.id t.held = true):=hide fun h => by rwa [List.take_of_length_le (Nat.le_refl _)] at h
 have hb5 : decide ((t.held.length : Int) > 30) = !decide (t.held.length ≤ 30):=by by_cases h : t.held.length ≤ 30 <;> simp [h] <;> omega
 generalize decide (COk n f) = b0 at *
 generalize decide (0 ≤ t.id ∧ t.id ≤ n - 1) = b1 at *
 generalize decide (1 ≤ t.vw ∧ t.vw ≤ 60) = b2 at *
 generalize decide (0 ≤ t.ak ∧ t.ak ≤ 60) = b3 at *
 generalize sokB n f t.vo t.lo t.n t.s t.qw t.d = b4 at *
 generalize decide (POk t.pool) = b5 at *
 generalize tokB n f t.tab = b6 at *
 generalize dokB t.dsk.length t.su = b7 at *
 generalize decide (t.held.length ≤ 30) = b8 at *
 obtain ⟨w0, hw0, Bw0, LC, A, zw0⟩:=bx2 w #[.int .i64 n,.int .i64 f] 49 #[.int .i64 t.id,.int .i64 t.vw,.int .i64 t.ak,.int .i64 t.vo,.int .i64 t.lo,.int .i64 t.n,.string t.s,.slice ao t.qw.length ca,.string t.d,.slice bo t.pool.length cb,.slice co t.tab.length cc,.slice od t.dsk.length cd,.int .i64 t.su,.slice oe t.held.length ce] 46
 go_enter Tryz.func34, Tryz.ntmps34
 obtain ⟨cLC0,cLC1⟩:=cc2 LC 0 1
 go_wp2_with fail
 clear hw0
 refine (CO.out _).mono ?_
 rintro _ w1 ⟨rfl, bb⟩
 clear cLC0 cLC1
 have Bw1:=bu Bw0 bb
 have sw1:=bb.size
 replace LC:=LC.up bb
 replace A:=A.up bb
 clear Bw0 bb
 cases b0
 ·have cA13:=A.cell 13 rfl
  go_wp2
  go_ret
  exact ⟨by simp, Bw1⟩
 have wn:=HCO.out rfl
 obtain ⟨cLC0,cLC1⟩:=cc2 LC 0 1
 have cA0:=A.cell 0 rfl
 go_wp2_with fail
 refine (i1.out _).mono ?_
 rintro _ w2 ⟨rfl, bb⟩
 clear cLC0 cLC1 cA0
 have Bw2:=bu Bw1 bb
 have sw2:=bb.size
 replace LC:=LC.up bb
 replace A:=A.up bb
 clear Bw1 bb
 cases b1
 ·have cA13:=A.cell 13 rfl
  go_wp2
  go_ret
  exact ⟨by simp, Bw2⟩
 have cLC0:=LC.cell 0 rfl
 obtain ⟨cA0,cA1⟩:=cc2 A 0 1
 go_wp2_with fail
 refine (i2.out _).mono ?_
 rintro _ w3 ⟨rfl, bb⟩
 clear cLC0 cA0 cA1
 have Bw3:=bu Bw2 bb
 have sw3:=bb.size
 replace LC:=LC.up bb
 replace A:=A.up bb
 clear Bw2 bb
 cases b2
 ·have cA13:=A.cell 13 rfl
  go_wp2
  go_ret
  exact ⟨by simp, Bw3⟩
 have cLC0:=LC.cell 0 rfl
 obtain ⟨cA0,cA1,cA2⟩:=cc3 A 0 1 2
 go_wp2_with fail
 refine (i3.out _).mono ?_
 rintro _ w4 ⟨rfl, bb⟩
 clear cLC0 cA0 cA1 cA2
 have Bw4:=bu Bw3 bb
 have sw4:=bb.size
 replace LC:=LC.up bb
 replace A:=A.up bb
 clear Bw3 bb
 cases b3
 ·have cA13:=A.cell 13 rfl
  go_wp2
  go_ret
  exact ⟨by simp, Bw4⟩
 obtain ⟨cLC0,cLC1⟩:=cc2 LC 0 1
 obtain ⟨cA0,cA1,cA2⟩:=cc3 A 0 1 2
 go_wp2_with (first | (refine wloadM [.int .i64 t.vo, .int .i64 t.lo, .int .i64 t.n, .string t.s, .slice ao t.qw.length ca, .string t.d] (A.range 3 6 rfl) 40 _ rfl _ rfl rfl Tryz.underlying40 rfl (by kernel_rfl) ?_))
 refine (SO.out _ (HR.out.q.below Bw4)).mono ?_
 rintro _ w5 ⟨rfl, bb⟩
 clear cLC0 cLC1 cA0 cA1 cA2
 have Bw5:=bu Bw4 bb
 have sw5:=bb.size
 replace LC:=LC.up bb
 replace A:=A.up bb
 clear Bw4 bb
 cases b4
 ·have cA13:=A.cell 13 rfl
  go_wp2
  go_ret
  exact ⟨by simp, Bw5⟩
 obtain ⟨cLC0,cLC1⟩:=cc2 LC 0 1
 have cA9:=A.cell 9 rfl
 go_wp2_with fail
 refine (PO.out _ (HR.out.p.below Bw5)).mono ?_
 rintro _ w6 ⟨rfl, bb⟩
 clear cLC0 cLC1 cA9
 have Bw6:=bu Bw5 bb
 have sw6:=bb.size
 replace LC:=LC.up bb
 replace A:=A.up bb
 clear Bw5 bb
 cases b5
 ·have cA13:=A.cell 13 rfl
  go_wp2
  go_ret
  exact ⟨by simp, Bw6⟩
 obtain ⟨cLC0,cLC1⟩:=cc2 LC 0 1
 have cA10:=A.cell 10 rfl
 go_wp2_with fail
 refine (TO.out _ (HR.out.tb.below Bw6)).mono ?_
 rintro _ w7 ⟨rfl, bb⟩
 clear cLC0 cLC1 cA10
 have Bw7:=bu Bw6 bb
 have sw7:=bb.size
 replace LC:=LC.up bb
 replace A:=A.up bb
 clear Bw6 bb
 cases b6
 ·have cA13:=A.cell 13 rfl
  go_wp2
  go_ret
  exact ⟨by simp, Bw7⟩
 obtain ⟨cLC0,cLC1⟩:=cc2 LC 0 1
 have cA10:=A.cell 10 rfl
 go_wp2_with (first | (refine wloadM [.slice od t.dsk.length cd, .int .i64 t.su] (A.range 11 2 rfl) 43 _ rfl _ rfl rfl Tryz.underlying43 rfl (by kernel_rfl) ?_))
 refine (DO.out _).mono ?_
 rintro _ w8 ⟨rfl, bb⟩
 clear cLC0 cLC1 cA10
 have Bw8:=bu Bw7 bb
 have sw8:=bb.size
 replace LC:=LC.up bb
 replace A:=A.up bb
 clear Bw7 bb
 cases b7
 ·have cA13:=A.cell 13 rfl
  go_wp2
  go_ret
  exact ⟨by simp, Bw8⟩
 have cA13:=A.cell 13 rfl
 cases b8
 ·clear cA13
  have cA13:=A.cell 13 rfl
  go_wp2
  go_ret
  exact ⟨by simp, Bw8⟩
 clear cA13
 have cA13:=A.cell 13 rfl
 obtain ⟨cLC0,cLC1⟩:=cc2 LC 0 1
 have hlen : (t.held.length : Int) ≤ 1048577:=by have:=hm.h; omega
 go_wp2
 clear cA13 cLC0 cLC1
 go_loopw [5] (fun i wr => ∃ k : Nat, k ≤ t.held.length ∧ i = .int .i64 k ∧ Below w8.heap.size w8 wr ∧ hokB n f t.id (t.held.take k) = true) (fun i _ => t.held.length - (intOf i).toNat)
 case atStart => exact ⟨0, Nat.zero_le _, rfl, Below.refl _ _, rfl⟩
 case round =>
  obtain ⟨k, hk, rfl, br, ho⟩:=hrel
  have LCr:=LC.up br
  have Ar:=A.up br
  have BR:=bu Bw8 br
  have a13:=Ar.cell 13 rfl
  have lc0:=LCr.cell 0 rfl
  have lc1:=LCr.cell 1 rfl
  have a0:=Ar.cell 0 rfl
  by_cases hlt : k < t.held.length
  ·have hr:=HR.out.h.below BR
   obtain ⟨g, off, cs, rfl, _, c1, a, b, c, e, ra, rb, rc⟩:=RG.at hr k hlt
   subst e
   have PN : Hid (pstB n f t.id (t.held.getD k zpost) = false → hokB n f t.id t.held = false):=hide fun h => NO.out k hlt h
   have PY : Hid (pstB n f t.id (t.held.getD k zpost) = true → hokB n f t.id (t.held.take (k + 1)) = true):=hide fun h => NX.out k hlt ho h
   have MOk:=hide fun a b c ka kb kc w h1 h2 h3 => MO.out k hlt a b c ka kb kc w h1 h2 h3
   clear hr NO NX MO ho
   unfold pstB at PN PY
   generalize (t.held.getD k zpost).1 = m at *
   generalize (t.held.getD k zpost).2 = u at *
   have I4:=hide fun w => i4.out m w
   have hq3 : (m == t.id) = decide (m = t.id):=by by_cases h : m = t.id <;> simp [h]
   generalize mokB n f u = p1 at *
   generalize decide (0 ≤ m ∧ m ≤ n - 1) = p2 at *
   generalize hp3 : decide (m = t.id) = p3 at *
   clear i4 IN hp3
   have c0 : wr.cell? ⟨g, off + k * 18, none⟩ = some (.int .i64 m):=c1 0 _ rfl
   have c17:=rangeAt_tail c1
   clear c1
   have R1:=hide ra
   have R2:=hide rb
   have R3:=hide rc
   obtain ⟨oa, ka, rfl⟩:=ra.form
   obtain ⟨ob, kb, rfl⟩:=rb.form
   obtain ⟨oc, kc, rfl⟩:=rc.form
   clear ra rb rc
   have g0 : g < wr.heap.size:=cell_lt c0
   have K : Hid (∀ w', Below wr.heap.size wr w' → (fun w' => Below wr.heap.size wr w' ∧ w'.cell? ⟨w.heap.size, 0, none⟩ = some (.int .i64 n) ∧ w'.cell? ⟨w.heap.size, 1, none⟩ = some (.int .i64 f) ∧ w'.cell? ⟨w.heap.size + 1, 13, none⟩ = some (.slice (some ⟨g, off, none⟩) t.held.length ce) ∧ w'.cell? ⟨w.heap.size + 1, 0, none⟩ = some (.int .i64 t.id) ∧ w'.cell? ⟨g, off + k * 18, none⟩ = some (.int .i64 m) ∧ w'.rangeAt g (off + k * 18 + 1) [.int .i64 u.k, .int .i64 u.vw, .string u.bn, .int .i64 u.bv, .string u.bs, .slice oa u.bw.length ka, .int .i64 u.pv, .string u.ps, .slice ob u.pw.length kb, .int .i64 u.qv, .string u.qs, .slice oc u.qw.length kc, .int .i64 u.wh, .int .i64 u.fr, .int .i64 u.tu, .int .i64 u.am, .int .i64 u.no]) w'):=hide fun w' hb' => ⟨hb', (LCr.up hb').cell 0 rfl, (LCr.up hb').cell 1 rfl, (Ar.up hb').cell 13 rfl, (Ar.up hb').cell 0 rfl, (hb'.cell (p:=⟨g, off + k * 18, none⟩) g0).trans c0, rangeAt_below c17 hb' (rangeAt_lt c17 (by simp))⟩
   clear c17 c0 g0
   cases p1
   ·go_upto_region 6 with fail
    refine wra K (fun bA hHeld => ?_)
    refine tx 0 69 ?_
    refine tx 1 70 ?_
    refine tx 3 72 ?_
    refine tx 2 71 ?_
    refine tx 4 73 ?_
    refine tx 5 74 ?_
    refine take_at (i := 6) (d := 75) (v := .agg #[.int .i64 u.k,.int .i64 u.vw,.string u.bn,.int .i64 u.bv,.string u.bs,.slice oa u.bw.length ka,.int .i64 u.pv,.string u.ps,.slice ob u.pw.length kb,.int .i64 u.qv,.string u.qs,.slice oc u.qw.length kc,.int .i64 u.wh,.int .i64 u.fr,.int .i64 u.tu,.int .i64 u.am,.int .i64 u.no]) rfl rfl (by kernel_rfl) (by kernel_rfl) (by kernel_rfl) (fun _ _ _ h => h) ?_ (by assumption) ?_
    ·exact yields_mid rfl 72 _ rfl rfl [.int .i64 u.k, .int .i64 u.vw, .string u.bn, .int .i64 u.bv, .string u.bs, .slice oa u.bw.length ka, .int .i64 u.pv, .string u.ps, .slice ob u.pw.length kb, .int .i64 u.qv, .string u.qs, .slice oc u.qw.length kc, .int .i64 u.wh, .int .i64 u.fr, .int .i64 u.tu, .int .i64 u.am, .int .i64 u.no] _ (fun w h => h.2.2.2.2.2.2) Tryz.underlying72 rfl (by kernel_rfl)
    simp only [pU]
    refine rd 7 rfl (fun KK hKK => ?_)
    go_simp
    have hgo:=bA
    refine (MOk.out _ _ _ _ _ _ _ (R1.out.below bA) (R2.out.below bA) (R3.out.below bA)).mono ?_
    rintro e wz1 ⟨rfl, bb⟩
    have bz1 : Below wr.heap.size wr wz1:=bu bA bb
    clear bA hgo bb hHeld
    refine hKK.out _ _ (K.out _ bz1) (fun hHeld => ?_)
    clear hKK KK
    refine tx 8 77 ?_
    refine tx 9 78 ?_
    refine sx 10 79 ?_
    refine sx 12 81 ?_
    refine sx 16 85 ?_
    refine sx 11 80 ?_
    refine sx 17 86 ?_
    refine sx 13 82 ?_
    refine sx 18 87 ?_
    refine sx 14 83 ?_
    refine sx 15 84 ?_
    refine sx 19 88 ?_
    refine sx 20 89 ?_
    refine tx 21 90 ?_
    refine tx 22 91 ?_
    refine sx 23 92 ?_
    refine sx 25 94 ?_
    refine sx 29 98 ?_
    refine sx 24 93 ?_
    refine sx 30 99 ?_
    refine sx 26 95 ?_
    refine sx 27 96 ?_
    refine sx 28 97 ?_
    refine sx 31 100 ?_
    refine tx 32 101 ?_
    clear hHeld
    refine wdn ?_
    have BZ:=bu BR bz1
    have FA:=PN.out (by simp)
    clear PN PY K
    go_wp2
    go_ret
    exact ⟨by rw [FA]; simp, BZ⟩
   cases p2
   ·go_upto_region 6 with fail
    refine wra K (fun bA hHeld => ?_)
    refine tx 0 69 ?_
    refine tx 1 70 ?_
    refine tx 3 72 ?_
    refine tx 2 71 ?_
    refine tx 4 73 ?_
    refine tx 5 74 ?_
    refine take_at (i := 6) (d := 75) (v := .agg #[.int .i64 u.k,.int .i64 u.vw,.string u.bn,.int .i64 u.bv,.string u.bs,.slice oa u.bw.length ka,.int .i64 u.pv,.string u.ps,.slice ob u.pw.length kb,.int .i64 u.qv,.string u.qs,.slice oc u.qw.length kc,.int .i64 u.wh,.int .i64 u.fr,.int .i64 u.tu,.int .i64 u.am,.int .i64 u.no]) rfl rfl (by kernel_rfl) (by kernel_rfl) (by kernel_rfl) (fun _ _ _ h => h) ?_ (by assumption) ?_
    ·exact yields_mid rfl 72 _ rfl rfl [.int .i64 u.k, .int .i64 u.vw, .string u.bn, .int .i64 u.bv, .string u.bs, .slice oa u.bw.length ka, .int .i64 u.pv, .string u.ps, .slice ob u.pw.length kb, .int .i64 u.qv, .string u.qs, .slice oc u.qw.length kc, .int .i64 u.wh, .int .i64 u.fr, .int .i64 u.tu, .int .i64 u.am, .int .i64 u.no] _ (fun w h => h.2.2.2.2.2.2) Tryz.underlying72 rfl (by kernel_rfl)
    simp only [pU]
    refine rd 7 rfl (fun KK hKK => ?_)
    go_simp
    have hgo:=bA
    refine (MOk.out _ _ _ _ _ _ _ (R1.out.below bA) (R2.out.below bA) (R3.out.below bA)).mono ?_
    rintro e wz1 ⟨rfl, bb⟩
    have bz1 : Below wr.heap.size wr wz1:=bu bA bb
    clear bA hgo bb hHeld
    refine hKK.out _ _ (K.out _ bz1) (fun hHeld => ?_)
    clear hKK KK
    refine tx 8 77 ?_
    refine tx 9 78 ?_
    refine tx 10 79 ?_
    refine tx 12 81 ?_
    refine tx 16 85 ?_
    refine tx 11 80 ?_
    refine tx 17 86 ?_
    refine tx 13 82 ?_
    refine tx 18 87 ?_
    refine tx 14 83 ?_
    refine tx 15 84 ?_
    refine rd 19 rfl (fun KK hKK => ?_)
    go_simp
    have hgo:=bz1
    refine (I4.out _).mono ?_
    rintro e wz2 ⟨rfl, bb⟩
    have bz2 : Below wr.heap.size wr wz2:=bu bz1 bb
    clear bz1 hgo bb hHeld
    refine hKK.out _ _ (K.out _ bz2) (fun hHeld => ?_)
    clear hKK KK
    refine tx 20 89 ?_
    refine tx 21 90 ?_
    refine tx 22 91 ?_
    refine sx 23 92 ?_
    refine sx 25 94 ?_
    refine sx 29 98 ?_
    refine sx 24 93 ?_
    refine sx 30 99 ?_
    refine sx 26 95 ?_
    refine sx 27 96 ?_
    refine sx 28 97 ?_
    refine sx 31 100 ?_
    refine tx 32 101 ?_
    clear hHeld
    refine wdn ?_
    have BZ:=bu BR bz2
    have FA:=PN.out (by simp)
    clear PN PY K
    go_wp2
    go_ret
    exact ⟨by rw [FA]; simp, BZ⟩
   cases p3
   ·go_upto_region 6 with fail
    refine wra K (fun bA hHeld => ?_)
    refine tx 0 69 ?_
    refine tx 1 70 ?_
    refine tx 3 72 ?_
    refine tx 2 71 ?_
    refine tx 4 73 ?_
    refine tx 5 74 ?_
    refine take_at (i := 6) (d := 75) (v := .agg #[.int .i64 u.k,.int .i64 u.vw,.string u.bn,.int .i64 u.bv,.string u.bs,.slice oa u.bw.length ka,.int .i64 u.pv,.string u.ps,.slice ob u.pw.length kb,.int .i64 u.qv,.string u.qs,.slice oc u.qw.length kc,.int .i64 u.wh,.int .i64 u.fr,.int .i64 u.tu,.int .i64 u.am,.int .i64 u.no]) rfl rfl (by kernel_rfl) (by kernel_rfl) (by kernel_rfl) (fun _ _ _ h => h) ?_ (by assumption) ?_
    ·exact yields_mid rfl 72 _ rfl rfl [.int .i64 u.k, .int .i64 u.vw, .string u.bn, .int .i64 u.bv, .string u.bs, .slice oa u.bw.length ka, .int .i64 u.pv, .string u.ps, .slice ob u.pw.length kb, .int .i64 u.qv, .string u.qs, .slice oc u.qw.length kc, .int .i64 u.wh, .int .i64 u.fr, .int .i64 u.tu, .int .i64 u.am, .int .i64 u.no] _ (fun w h => h.2.2.2.2.2.2) Tryz.underlying72 rfl (by kernel_rfl)
    simp only [pU]
    refine rd 7 rfl (fun KK hKK => ?_)
    go_simp
    have hgo:=bA
    refine (MOk.out _ _ _ _ _ _ _ (R1.out.below bA) (R2.out.below bA) (R3.out.below bA)).mono ?_
    rintro e wz1 ⟨rfl, bb⟩
    have bz1 : Below wr.heap.size wr wz1:=bu bA bb
    clear bA hgo bb hHeld
    refine hKK.out _ _ (K.out _ bz1) (fun hHeld => ?_)
    clear hKK KK
    refine tx 8 77 ?_
    refine tx 9 78 ?_
    refine tx 10 79 ?_
    refine tx 12 81 ?_
    refine tx 16 85 ?_
    refine tx 11 80 ?_
    refine tx 17 86 ?_
    refine tx 13 82 ?_
    refine tx 18 87 ?_
    refine tx 14 83 ?_
    refine tx 15 84 ?_
    refine rd 19 rfl (fun KK hKK => ?_)
    go_simp
    have hgo:=bz1
    refine (I4.out _).mono ?_
    rintro e wz2 ⟨rfl, bb⟩
    have bz2 : Below wr.heap.size wr wz2:=bu bz1 bb
    clear bz1 hgo bb hHeld
    refine hKK.out _ _ (K.out _ bz2) (fun hHeld => ?_)
    clear hKK KK
    refine tx 20 89 ?_
    refine tx 21 90 ?_
    refine tx 22 91 ?_
    refine tx 23 92 ?_
    refine tx 25 94 ?_
    refine tx 29 98 ?_
    refine tx 24 93 ?_
    refine tx 30 99 ?_
    refine tx 26 95 ?_
    refine tx 27 96 ?_
    refine tx 28 97 ?_
    refine tx 31 100 ?_
    refine tx 32 101 ?_
    clear hHeld
    refine wdn ?_
    have BZ:=bu br bz2
    have TR:=PY.out (by simp)
    clear PN PY K
    go_wp2
    go_roundw
    case rel => exact ⟨k + 1, by omega, by go_num, BZ, TR⟩
    case measure => simp [intOf]; omega
   go_upto_region 6 with fail
   refine wra K (fun bA hHeld => ?_)
   refine tx 0 69 ?_
   refine tx 1 70 ?_
   refine tx 3 72 ?_
   refine tx 2 71 ?_
   refine tx 4 73 ?_
   refine tx 5 74 ?_
   refine take_at (i := 6) (d := 75) (v := .agg #[.int .i64 u.k,.int .i64 u.vw,.string u.bn,.int .i64 u.bv,.string u.bs,.slice oa u.bw.length ka,.int .i64 u.pv,.string u.ps,.slice ob u.pw.length kb,.int .i64 u.qv,.string u.qs,.slice oc u.qw.length kc,.int .i64 u.wh,.int .i64 u.fr,.int .i64 u.tu,.int .i64 u.am,.int .i64 u.no]) rfl rfl (by kernel_rfl) (by kernel_rfl) (by kernel_rfl) (fun _ _ _ h => h) ?_ (by assumption) ?_
   ·exact yields_mid rfl 72 _ rfl rfl [.int .i64 u.k, .int .i64 u.vw, .string u.bn, .int .i64 u.bv, .string u.bs, .slice oa u.bw.length ka, .int .i64 u.pv, .string u.ps, .slice ob u.pw.length kb, .int .i64 u.qv, .string u.qs, .slice oc u.qw.length kc, .int .i64 u.wh, .int .i64 u.fr, .int .i64 u.tu, .int .i64 u.am, .int .i64 u.no] _ (fun w h => h.2.2.2.2.2.2) Tryz.underlying72 rfl (by kernel_rfl)
   simp only [pU]
   refine rd 7 rfl (fun KK hKK => ?_)
   go_simp
   have hgo:=bA
   refine (MOk.out _ _ _ _ _ _ _ (R1.out.below bA) (R2.out.below bA) (R3.out.below bA)).mono ?_
   rintro e wz1 ⟨rfl, bb⟩
   have bz1 : Below wr.heap.size wr wz1:=bu bA bb
   clear bA hgo bb hHeld
   refine hKK.out _ _ (K.out _ bz1) (fun hHeld => ?_)
   clear hKK KK
   refine tx 8 77 ?_
   refine tx 9 78 ?_
   refine tx 10 79 ?_
   refine tx 12 81 ?_
   refine tx 16 85 ?_
   refine tx 11 80 ?_
   refine tx 17 86 ?_
   refine tx 13 82 ?_
   refine tx 18 87 ?_
   refine tx 14 83 ?_
   refine tx 15 84 ?_
   refine rd 19 rfl (fun KK hKK => ?_)
   go_simp
   have hgo:=bz1
   refine (I4.out _).mono ?_
   rintro e wz2 ⟨rfl, bb⟩
   have bz2 : Below wr.heap.size wr wz2:=bu bz1 bb
   clear bz1 hgo bb hHeld
   refine hKK.out _ _ (K.out _ bz2) (fun hHeld => ?_)
   clear hKK KK
   refine tx 20 89 ?_
   refine tx 21 90 ?_
   refine tx 22 91 ?_
   refine tx 23 92 ?_
   refine tx 25 94 ?_
   refine tx 29 98 ?_
   refine tx 24 93 ?_
   refine tx 30 99 ?_
   refine tx 26 95 ?_
   refine tx 27 96 ?_
   refine tx 28 97 ?_
   refine tx 31 100 ?_
   refine tx 32 101 ?_
   clear hHeld
   refine wdn ?_
   have BZ:=bu BR bz2
   have FA:=PN.out (by simp)
   clear PN PY K
   go_wp2
   go_ret
   exact ⟨by rw [FA]; simp, BZ⟩
  have hkn : k = t.held.length:=by omega
  rw [hkn] at ho
  have FA:=FU.out ho
  subst hkn
  clear NO NX MO FU ho
  go_wp2
  go_ret
  exact ⟨by rw [FA]; simp, BR⟩
end
end Go.Proofs.YtjdchloechcclaaGreatDoor
